/- The document's reader: Next. -/
import Derived.Test.YtbpbokdomdmclaaORead
import Derived.Test.YtbpbokdomdmclaaOSame
import Derived.Test.YtbpbokdomdmclaaORegion
import Derived.IntWalk
namespace Go.Proofs.Ytbpbokdomdmclaa
open Go.RowKit

/-- A reader with its slice named. -/
def RdAt (t : TypeId × Nat) (w : World) (g : Nat) (A : Option Addr) (c : Nat) (s : St) : Prop :=
  Whole w g #[.slice A s.1.length c, .int .i64 (s.2 : Int)] t.1 ∧ Slice A s.1.length c ∧ Holds w A (bytesV s.1) ∧ (∀ b o, A = some ⟨b, o, none⟩ → t.2 ≤ b ∧ b < g) ∧ Bytes s.1 ∧ s.1.length ≤ 1000000
namespace RdAt
variable {t : TypeId × Nat} {w w' : World} {g c : Nat} {A : Option Addr} {s : St}
theorem rd (h : RdAt t w g A c s) : Rd t w g s := ⟨A, c, h⟩
theorem below (h : RdAt t w g A c s) (hb : Below w.heap.size w w') : RdAt t w' g A c s := ⟨h.1.below hb h.1.lt, h.2.1, h.2.2.1.below hb, h.2.2.2⟩
theorem fault (h : RdAt t w g A c s) (f : Nat) : RdAt t (w.setCell ⟨g, 1, none⟩ (.int .i64 (f : Int))) g A c (s.1, f) :=
  ⟨h.1.set_ 1 _, h.2.1, ((Touch.refl g w).set_ 1 _).holds h.2.2.1 h.2.2.2.1, h.2.2.2⟩
theorem cell0 (h : RdAt t w g A c s) : w.cell? ⟨g, 0, none⟩ = some (.slice A s.1.length c) := by rw [h.1.cell]; rfl
theorem cell1 (h : RdAt t w g A c s) : w.cell? ⟨g, 1, none⟩ = some (.int .i64 (s.2 : Int)) := by rw [h.1.cell]; rfl
/-- All that is left is read. -/
theorem cut_eq {b : List Nat} {f z bb o : Nat} (h : RdAt t w g (some ⟨bb, o, none⟩) c (b, f)) (hlz : b.length = z) : Rd t (w.setCell ⟨g, 0, none⟩ (.slice (some ⟨bb, o, none⟩) 0 0)) g (b.drop z, f) := by
  refine ⟨some ⟨bb, o, none⟩, 0, ?_, ⟨by rw [List.length_drop]; omega, by omega, fun h => (by cases h)⟩, ?_, h.2.2.2.1, fun x hx => h.2.2.2.2.1 x (List.mem_of_mem_drop hx), by rw [List.length_drop]; have := h.2.2.2.2.2; simp only at this; omega⟩
  · have h2 := h.1.set_ 0 (.slice (some ⟨bb, o, none⟩) 0 0)
    rw [List.length_drop, hlz, Nat.sub_self]
    exact h2
  · rw [List.drop_of_length_le (by omega)]
    exact Holds.nil _ _
theorem cut_lt {b : List Nat} {f z bb o : Nat} (h : RdAt t w g (some ⟨bb, o, none⟩) c (b, f)) (hp : 0 < b.length) (hz : z ≤ b.length) : Rd t (w.setCell ⟨g, 0, none⟩ (.slice (some ⟨bb, o + z, none⟩) (b.length - z) (c - z))) g (b.drop z, f) := by
  obtain ⟨h1, h2, h3, h4, h5, h6⟩ := h
  have a1 : b.length ≤ c := h2.1
  have a2 := h2.2.1
  refine ⟨some ⟨bb, o + z, none⟩, c - z, ?_, ⟨by rw [List.length_drop]; omega, by omega, fun h => (by cases h)⟩, ?_, fun b' o' e => (by cases e; exact h4 bb o rfl), fun x hx => h5 x (List.mem_of_mem_drop hx), by rw [List.length_drop]; simp only at h6 ⊢; omega⟩
  · have h2 := h1.set_ 0 (.slice (some ⟨bb, o + z, none⟩) (b.length - z) (c - z))
    rw [List.length_drop]
    exact h2
  · have h3 := ((Touch.refl g w).set_ 0 (.slice (some ⟨bb, o + z, none⟩) (b.length - z) (c - z))).holds h3 h4
    intro hn
    obtain ⟨b', o', e, hc⟩ := h3 (by rw [bytesV_len]; exact hp)
    cases e
    refine ⟨bb, o + z, rfl, fun j u hu => ?_⟩
    rw [Nat.add_assoc]
    refine hc (z + j) u ?_
    unfold bytesV at hu ⊢
    rw [← hu, List.map_drop, List.getElem?_drop]
theorem drewN (h : RdAt t w g A c s) (n : Nat) : RdAt t (w.drewN n) g A c s := h
end RdAt
theorem below_of_drew {w w' : World} (h : Below w.drew.heap.size w.drew w') : Below w.heap.size w w' := ⟨h.os, h.tape, h.output, h.size, h.block⟩
theorem Touch.drewN {g : Nat} {a w : World} (h : Touch g a w) (n : Nat) : Touch g a (w.drewN n) := ⟨h.os, h.tape, h.output, h.size, h.block⟩

theorem mod_step (V y W k : Nat) (b : List Nat) (hV : V = val (b.take k) % 18446744073709551616) (hW : W = 128 ^ k % 18446744073709551616) :
    (V + W * y % 18446744073709551616) % 18446744073709551616 = (val (b.take k) + y * 128 ^ k) % 18446744073709551616 := by
  rw [hV, hW, ← Nat.mod_add_mod, Nat.mod_mod, Nat.mod_add_mod, ← Nat.add_mod_mod (val _), Nat.mod_mod]
  rw [Nat.mod_mul_mod, Nat.mul_comm, Nat.add_mod_mod]

theorem next_none {b : List Nat} {most k u nl : Nat} (hk : ∀ j (h : j < b.length), j < k → 128 ≤ b[j]) (hl : k < b.length) (hx : b[k] < 128) (hu : u = val (b.take (k + 1)) % 18446744073709551616) (hm : most < 18446744073709551616)
    (hnl : nl = (leb u).length) (hno : ¬ (u ≤ most ∧ leb u = b.take nl ∧ nl = k + 1)) : scan b most = (0, 0, 3) :=
  scan_none fun n hn ht => by
    have e := touch_end hk hl hx ht
    have en : n = val (b.take (k + 1)) := by rw [← e, val_leb]
    rw [← en, Nat.mod_eq_of_lt (Nat.lt_of_le_of_lt hn hm)] at hu
    subst hu
    have hln : nl = k + 1 := by rw [hnl, e, List.length_take]; omega
    exact hno ⟨hn, by rw [hln]; exact e, hln⟩
/-- These bytes are answered, somewhere. -/
def NewN (n : Nat) (l : List Nat) (w : World) (e : Ending) (w' : World) : Prop := ∃ A c, e = .returned (.slice A n c) ∧ Holds w' A (bytesV l) ∧ Below w.heap.size w w'
theorem form_n (n k : Nat) (w : World) (h : n < 18446744073709551616) (hk : (leb n).length = k) : Calls Try.prog 30 #[.int .u64 n] w (NewN k (leb n) w) :=
  (form_any n w h).mono fun e w' ⟨A, c, he, ho, hb⟩ => ⟨A, c, by rw [he, hk], own_holds ho, hb⟩
theorem begins_n (A B : Option Addr) (c d n m : Nat) (l r : List Nat) (w : World) (hn : l.length = n) (hm : r.length = m) (hA : Holds w A (bytesV l)) (hB : Holds w B (bytesV r)) (hl : n ≤ 4611686018427387904) (v : Bool) (hv : v = decide (l = r.take n)) :
    Calls Try.prog 38 #[.slice A n c, .slice B m d] w fun e w' => e = .returned (.bool v) ∧ ∃ q, w' = w.drewN q := by
  subst hn hm
  exact rbegins_any A B c d l r w hA hB hl v hv

set_option maxRecDepth 100000 in
set_option maxHeartbeats 1000000 in
theorem rnext_ok (t : TypeId × Nat) (g most : Nat) (b : List Nat) (w : World) (A : Option Addr) (c : Nat) (h : RdAt t w g A c (b, 0)) (hm : most < 18446744073709551616) :
    Calls Try.prog 35 #[.pointer (some ⟨g, 0, none⟩), .int .u64 most] w (ReadPost t g w (.int .u64 (nextS most (b, 0)).1) (nextS most (b, 0)).2) := by
  have c0 : w.cell? ⟨g, 0, none⟩ = some (.slice A b.length c) := h.cell0
  have c1 : w.cell? ⟨g, 1, none⟩ = some (.int .i64 (0 : Nat)) := h.cell1
  have f0 : w.frozen? ⟨g, 0, none⟩ = false := h.1.frozen 0
  have f1 : w.frozen? ⟨g, 1, none⟩ = false := h.1.frozen 1
  have hn : nextS most (b, 0) = ((scan b most).1, (b.drop (scan b most).2.1, (scan b most).2.2)) := by unfold nextS; rw [if_neg (by simp)]
  have HN := Lib.hid hn
  have H := Lib.hid h
  have HM := Lib.hid hm
  obtain ⟨L, hL⟩ : ∃ L, L = b.length := ⟨_, rfl⟩
  have hLb : L ≤ 1000000 := by rw [hL]; exact h.2.2.2.2.2
  rw [← hL] at c0
  have HL := Lib.hid hL
  rw [HN.out]
  clear h hm hn hL
  go_enter Try.func35, Try.ntmps35
  go_wp2_with fail
  go_loop [5, 6, 7] (fun v m i => ∃ k : Nat, i = .int .i64 k ∧ k ≤ L ∧ k ≤ 10 ∧ Hid (∀ j (h : j < b.length), j < k → 128 ≤ b[j]) ∧
    ∃ V W : Nat, v = .int .u64 V ∧ m = .int .u64 W ∧ Hid (V = val (b.take k) % 18446744073709551616) ∧ Hid (W = 128 ^ k % 18446744073709551616)) (fun _ _ i => L - (intOf i).toNat)
  case atStart => exact ⟨0, rfl, by omega, by omega, fun j _ h => absurd h (by omega), 0, 1, rfl, rfl, rfl, rfl⟩
  case round =>
    obtain ⟨k, rfl, hk, hk10, HB, V, W, rfl, rfl, HV, HW⟩ := hrel
    by_cases hlt : k < L
    · by_cases hlt10 : k < 10
      · have hkl : k < b.length := by have := HL.out; omega
        obtain ⟨bb, o, rfl, hc⟩ := H.out.2.2.1 (by rw [bytesV_len]; simp only; omega)
        have h1 := hc k _ (bytesV_get hkl)
        have hx := H.out.2.2.2.2.1 _ (List.getElem_mem hkl)
        have hvt := val_take hkl
        have hms := mod_step V (b[k] % 128) W k b HV.out HW.out
        rw [← hvt] at hms
        obtain ⟨y, hy⟩ : ∃ y, y = b[k] % 128 := ⟨_, rfl⟩
        obtain ⟨x, hxx⟩ : ∃ x, x = b[k] := ⟨_, rfl⟩
        rw [← hxx] at h1 hx
        rw [← hy] at hms
        have hxi : (x : Int) % 128 = (y : Int) := by omega
        have HX := Lib.hid hxx
        have HVT := Lib.hid hvt
        obtain ⟨p, hp⟩ : ∃ p, p = W * y % 18446744073709551616 := ⟨_, rfl⟩
        obtain ⟨u, hu⟩ : ∃ u, u = (V + p) % 18446744073709551616 := ⟨_, rfl⟩
        obtain ⟨W', hW'⟩ : ∃ W', W' = W * 128 % 18446744073709551616 := ⟨_, rfl⟩
        have e1 : IntKind.u64.wrap ((W : Int) * (y : Int)) = (p : Int) := by rw [hp, ← u64_wrap_nat]; norm_cast
        have e2 : IntKind.u64.wrap ((V : Int) + (p : Int)) = (u : Int) := by rw [hu, ← u64_wrap_nat]; norm_cast
        have e3 : IntKind.u64.wrap ((W : Int) * 128) = (W' : Int) := by rw [hW', ← u64_wrap_nat]; norm_cast
        have hu' : Hid (u = val (b.take (k + 1)) % 18446744073709551616) := by rw [hu, hp]; exact hms
        have hW2 : Hid (W' = 128 ^ (k + 1) % 18446744073709551616) := by rw [hW', HW.out, Nat.mod_mul_mod, ← Nat.pow_succ]; exact rfl
        have hub : u < 18446744073709551616 := by rw [hu]; exact Nat.mod_lt _ (by decide)
        have HUB := Lib.hid hub
        clear hc hvt hms hy hxx hp hu hW' hub
        by_cases hx8 : 128 ≤ x
        · have hB1 : Hid (∀ j (h : j < b.length), j < k + 1 → 128 ≤ b[j]) := fun j h hj => by
            by_cases e : j = k
            · subst e; rw [← HX.out]; exact hx8
            · exact HB.out j h (by omega)
          have t2 : ¬ (x : Int) < 128 := by omega
          go_wp2_with fail
          go_round
          case rel => exact ⟨k + 1, by go_num, by omega, by omega, hB1, u, W', rfl, rfl, hu', hW2⟩
          case measure => simp [intOf] <;> omega
        · have t2 : (x : Int) < 128 := by omega
          by_cases hum : u ≤ most
          · have t3 : (u : Int) ≤ (most : Int) := by omega
            obtain ⟨nl, hnl⟩ : ∃ nl, nl = (leb u).length := ⟨_, rfl⟩
            have hll : nl ≤ 10 := by rw [hnl]; exact leb_ten HUB.out
            have KS : ∀ w', Below w.heap.size w w' → w'.cell? ⟨g, 0, none⟩ = some (.slice (some ⟨bb, o, none⟩) L c) ∧ Below w.heap.size w w' := fun w' hb => ⟨(hb.cell (p := ⟨g, 0, none⟩) H.out.1.lt).trans c0, hb⟩
            have HKS := Lib.hid KS
            have HFO := Lib.hid fun w => form_n u nl w HUB.out hnl.symm
            have hA0 : Hid (Holds w (some ⟨bb, o, none⟩) (bytesV b)) := H.out.2.2.1
            have HNL := Lib.hid hnl
            clear KS hnl
            by_cases hbg : leb u = b.take nl
            · have HBG : Hid (∀ A2 c2 w', Holds w' A2 (bytesV (leb u)) → Below w.heap.size w w' → Calls Try.prog 38 #[.slice A2 nl c2, .slice (some ⟨bb, o, none⟩) L c] w' fun e w'' => e = .returned (.bool true) ∧ ∃ q, w'' = w'.drewN q) := fun A2 c2 w' h1 h2 =>
                begins_n A2 _ c2 c nl L (leb u) b w' HNL.out.symm HL.out.symm h1 (hA0.out.below h2) (by omega) true (by simpa using hbg)
              by_cases hnk : nl = k + 1
              · have HSC : Hid (scan b most = (u, k + 1, 0)) := by
                  have h9 := scan_found (b := b) (most := most) (n := u) ⟨hum, by rw [hbg]; exact List.take_prefix _ _⟩
                  rw [← HNL.out, hnk] at h9
                  exact h9
                have t5 : ((nl : Int) == (k : Int) + 1) = true := by simp; omega
                clear hbg hnk
                generalize leb u = l at *
                go_wp2_with fail
                have wk : IntKind.i64.wrap ((k : Int) + 1) = (k : Int) + 1 := IntWalk.i64_in _ (by omega)
                refine region_begin (S := fun w' => w'.cell? ⟨g, 0, none⟩ = some (.slice (some ⟨bb, o, none⟩) L c) ∧ Below w.heap.size w w') (by kernel_rfl) (HKS.out _ (below_drewN (Below.refl _ _) 1)) (fun hHeld => ?_)
                refine region_take 0 ?_ rfl (by kernel_rfl) (by rfl) hHeld ?_ ?_
                rotate_left
                · intro w hSw
                  (try dsimp only at hSw)
                  go_simp
                  try with_reducible rfl
                try simp only [Act.put, List.setIfInBounds_toArray, List.set_cons_zero, List.set_cons_succ]
                refine region_take 1 ?_ rfl (by kernel_rfl) (by rfl) hHeld ?_ ?_
                rotate_left
                · intro w hSw
                  (try dsimp only at hSw)
                  go_simp
                  try with_reducible rfl
                try simp only [Act.put, List.setIfInBounds_toArray, List.set_cons_zero, List.set_cons_succ]
                refine region_take 2 ?_ rfl (by kernel_rfl) (by rfl) hHeld ?_ ?_
                rotate_left
                · intro w hSw
                  (try dsimp only at hSw)
                  go_simp
                  try with_reducible rfl
                try simp only [Act.put, List.setIfInBounds_toArray, List.set_cons_zero, List.set_cons_succ]
                refine region_take 3 ?_ rfl (by kernel_rfl) (by rfl) hHeld ?_ ?_
                rotate_left
                · intro w hSw
                  (try dsimp only at hSw)
                  go_simp
                  try with_reducible rfl
                try simp only [Act.put, List.setIfInBounds_toArray, List.set_cons_zero, List.set_cons_succ]
                refine region_take 4 ?_ rfl (by kernel_rfl) (by rfl) hHeld ?_ ?_
                rotate_left
                · intro w hSw
                  (try dsimp only at hSw)
                  go_simp
                  try with_reducible rfl
                try simp only [Act.put, List.setIfInBounds_toArray, List.set_cons_zero, List.set_cons_succ]
                refine region_take 6 ?_ rfl (by kernel_rfl) (by rfl) hHeld ?_ ?_
                rotate_left
                · intro w hSw
                  (try dsimp only at hSw)
                  go_simp
                  try with_reducible rfl
                try simp only [Act.put, List.setIfInBounds_toArray, List.set_cons_zero, List.set_cons_succ]
                refine region_take 7 ?_ rfl (by kernel_rfl) (by rfl) hHeld ?_ ?_
                rotate_left
                · intro w hSw
                  (try dsimp only at hSw)
                  go_simp
                  try with_reducible rfl
                try simp only [Act.put, List.setIfInBounds_toArray, List.set_cons_zero, List.set_cons_succ]
                refine region_take 8 ?_ rfl (by kernel_rfl) (by rfl) hHeld ?_ ?_
                rotate_left
                · intro w hSw
                  (try dsimp only at hSw)
                  go_simp
                  try with_reducible rfl
                try simp only [Act.put, List.setIfInBounds_toArray, List.set_cons_zero, List.set_cons_succ]
                refine region_take 9 ?_ rfl (by kernel_rfl) (by rfl) hHeld ?_ ?_
                rotate_left
                · intro w hSw
                  (try dsimp only at hSw)
                  go_simp
                  try with_reducible rfl
                try simp only [Act.put, List.setIfInBounds_toArray, List.set_cons_zero, List.set_cons_succ]
                refine region_call 5 rfl (by kernel_rfl) (by rfl) (fun K hK => ?_)
                go_simp
                go_at_call 30
                ((with_reducible refine (HFO.out _).mono ?_); rintro e w2 ⟨A2, c2, rfl, hown2, hb2⟩)
                have hb2' := below_of_drew hb2
                refine hK.out _ _ (HKS.out _ hb2') (fun hHeld => ?_)
                clear hK K
                try simp only [Act.put, List.setIfInBounds_toArray, List.set_cons_zero, List.set_cons_succ]
                refine region_call 10 rfl (by kernel_rfl) (by rfl) (fun K hK => ?_)
                go_simp
                go_at_call 38
                ((with_reducible refine (HBG.out A2 c2 _ hown2 hb2').mono ?_); rintro e w3 ⟨rfl, q3, rfl⟩)
                have hb3 := below_drewN hb2' q3
                have HB3 := Lib.hid hb3
                clear hb2 hb2' hown2 hb3
                generalize w2.drewN q3 = w4 at *
                refine hK.out _ _ (HKS.out _ HB3.out) (fun hHeld => ?_)
                clear hK K
                try simp only [Act.put, List.setIfInBounds_toArray, List.set_cons_zero, List.set_cons_succ]
                refine region_take 11 ?_ rfl (by kernel_rfl) (by rfl) hHeld ?_ ?_
                rotate_left
                · intro w hSw
                  (try dsimp only at hSw)
                  go_simp
                  try with_reducible rfl
                try simp only [Act.put, List.setIfInBounds_toArray, List.set_cons_zero, List.set_cons_succ]
                refine region_take 12 ?_ rfl (by kernel_rfl) (by rfl) hHeld ?_ ?_
                rotate_left
                · intro w hSw
                  (try dsimp only at hSw)
                  go_simp
                  try with_reducible rfl
                try simp only [Act.put, List.setIfInBounds_toArray, List.set_cons_zero, List.set_cons_succ]
                refine region_take 13 ?_ rfl (by kernel_rfl) (by rfl) hHeld ?_ ?_
                rotate_left
                · intro w hSw
                  (try dsimp only at hSw)
                  go_simp
                  try with_reducible rfl
                try simp only [Act.put, List.setIfInBounds_toArray, List.set_cons_zero, List.set_cons_succ]
                refine region_take 16 ?_ rfl (by kernel_rfl) (by rfl) hHeld ?_ ?_
                rotate_left
                · intro w hSw
                  (try dsimp only at hSw)
                  go_simp
                  try with_reducible rfl
                try simp only [Act.put, List.setIfInBounds_toArray, List.set_cons_zero, List.set_cons_succ]
                refine region_take 17 ?_ rfl (by kernel_rfl) (by rfl) hHeld ?_ ?_
                rotate_left
                · intro w hSw
                  (try dsimp only at hSw)
                  go_simp
                  try with_reducible rfl
                try simp only [Act.put, List.setIfInBounds_toArray, List.set_cons_zero, List.set_cons_succ]
                refine region_call 14 rfl (by kernel_rfl) (by rfl) (fun K hK => ?_)
                go_simp
                go_at_call 30
                ((with_reducible refine (HFO.out _).mono ?_); rintro e w5 ⟨A5, c5, rfl, _, hb5⟩)
                have hb5' := below_step HB3.out hb5
                refine hK.out _ _ (HKS.out _ hb5') (fun hHeld => ?_)
                clear hK K
                try simp only [Act.put, List.setIfInBounds_toArray, List.set_cons_zero, List.set_cons_succ]
                refine region_take 15 ?_ rfl (by kernel_rfl) (by rfl) hHeld ?_ ?_
                rotate_left
                · intro w hSw
                  (try dsimp only at hSw)
                  go_simp
                  try with_reducible rfl
                try simp only [Act.put, List.setIfInBounds_toArray, List.set_cons_zero, List.set_cons_succ]
                refine region_take 18 ?_ rfl (by kernel_rfl) (by rfl) hHeld ?_ ?_
                rotate_left
                · intro w hSw
                  (try dsimp only at hSw)
                  go_simp
                  try with_reducible rfl
                try simp only [Act.put, List.setIfInBounds_toArray, List.set_cons_zero, List.set_cons_succ]
                refine region_take 19 ?_ rfl (by kernel_rfl) (by rfl) hHeld ?_ ?_
                rotate_left
                · intro w hSw
                  (try dsimp only at hSw)
                  go_simp
                  try with_reducible rfl
                try simp only [Act.put, List.setIfInBounds_toArray, List.set_cons_zero, List.set_cons_succ]
                refine region_done (by kernel_rfl) ?_
                clear wk
                have h9 := H.out.below hb5'
                have t9 : Touch g w w5 := Touch.of_below hb5'
                have H9 := Lib.hid h9
                have T9 := Lib.hid t9
                have c9 := h9.cell0
                have f9 : w5.frozen? ⟨g, 0, none⟩ = false := h9.1.frozen 0
                rw [show (b, 0).1.length = L from HL.out.symm] at c9
                have hcb : c ≤ 9223372036854775807 := h9.2.1.2.1
                have hLc : L ≤ c := by have := h9.2.1.1; rw [show (b, 0).1.length = L from HL.out.symm] at this; exact this
                clear h9 t9 hb5 hb5'
                by_cases hcz : c = k + 1
                · have hLk : L = k + 1 := by omega
                  have HR := Lib.hid (H9.out.cut_eq (z := k + 1) (by rw [← HL.out]; exact hLk))
                  subst hcz hLk
                  go_wp2_with fail
                  go_ret
                  rw [HSC.out]
                  exact ⟨rfl, HR.out, T9.out.set_ 0 _⟩
                · have hcz' : k + 1 < c := by omega
                  have HR := Lib.hid (H9.out.cut_lt (z := k + 1) (by omega) (by omega))
                  rw [← HL.out] at HR
                  have hne : ((c : Int) == (k : Int) + 1) = false := by simp; omega
                  go_wp2_with fail
                  go_ret
                  rw [HSC.out]
                  exact ⟨rfl, HR.out, T9.out.set_ 0 _⟩
              · have HSC := Lib.hid (next_none (most := most) HB.out hkl (by rw [← HX.out]; omega) hu'.out HM.out HNL.out (fun h => hnk h.2.2))
                have t5 : ((nl : Int) == (k : Int) + 1) = false := by simp; omega
                clear hbg
                generalize leb u = l at *
                go_wp2_with fail
                have wk : IntKind.i64.wrap ((k : Int) + 1) = (k : Int) + 1 := IntWalk.i64_in _ (by omega)
                refine region_begin (S := fun w' => w'.cell? ⟨g, 0, none⟩ = some (.slice (some ⟨bb, o, none⟩) L c) ∧ Below w.heap.size w w') (by kernel_rfl) (HKS.out _ (below_drewN (Below.refl _ _) 1)) (fun hHeld => ?_)
                refine region_take 0 ?_ rfl (by kernel_rfl) (by rfl) hHeld ?_ ?_
                rotate_left
                · intro w hSw
                  (try dsimp only at hSw)
                  go_simp
                  try with_reducible rfl
                try simp only [Act.put, List.setIfInBounds_toArray, List.set_cons_zero, List.set_cons_succ]
                refine region_take 1 ?_ rfl (by kernel_rfl) (by rfl) hHeld ?_ ?_
                rotate_left
                · intro w hSw
                  (try dsimp only at hSw)
                  go_simp
                  try with_reducible rfl
                try simp only [Act.put, List.setIfInBounds_toArray, List.set_cons_zero, List.set_cons_succ]
                refine region_take 2 ?_ rfl (by kernel_rfl) (by rfl) hHeld ?_ ?_
                rotate_left
                · intro w hSw
                  (try dsimp only at hSw)
                  go_simp
                  try with_reducible rfl
                try simp only [Act.put, List.setIfInBounds_toArray, List.set_cons_zero, List.set_cons_succ]
                refine region_take 3 ?_ rfl (by kernel_rfl) (by rfl) hHeld ?_ ?_
                rotate_left
                · intro w hSw
                  (try dsimp only at hSw)
                  go_simp
                  try with_reducible rfl
                try simp only [Act.put, List.setIfInBounds_toArray, List.set_cons_zero, List.set_cons_succ]
                refine region_take 4 ?_ rfl (by kernel_rfl) (by rfl) hHeld ?_ ?_
                rotate_left
                · intro w hSw
                  (try dsimp only at hSw)
                  go_simp
                  try with_reducible rfl
                try simp only [Act.put, List.setIfInBounds_toArray, List.set_cons_zero, List.set_cons_succ]
                refine region_take 6 ?_ rfl (by kernel_rfl) (by rfl) hHeld ?_ ?_
                rotate_left
                · intro w hSw
                  (try dsimp only at hSw)
                  go_simp
                  try with_reducible rfl
                try simp only [Act.put, List.setIfInBounds_toArray, List.set_cons_zero, List.set_cons_succ]
                refine region_take 7 ?_ rfl (by kernel_rfl) (by rfl) hHeld ?_ ?_
                rotate_left
                · intro w hSw
                  (try dsimp only at hSw)
                  go_simp
                  try with_reducible rfl
                try simp only [Act.put, List.setIfInBounds_toArray, List.set_cons_zero, List.set_cons_succ]
                refine region_take 8 ?_ rfl (by kernel_rfl) (by rfl) hHeld ?_ ?_
                rotate_left
                · intro w hSw
                  (try dsimp only at hSw)
                  go_simp
                  try with_reducible rfl
                try simp only [Act.put, List.setIfInBounds_toArray, List.set_cons_zero, List.set_cons_succ]
                refine region_take 9 ?_ rfl (by kernel_rfl) (by rfl) hHeld ?_ ?_
                rotate_left
                · intro w hSw
                  (try dsimp only at hSw)
                  go_simp
                  try with_reducible rfl
                try simp only [Act.put, List.setIfInBounds_toArray, List.set_cons_zero, List.set_cons_succ]
                refine region_call 5 rfl (by kernel_rfl) (by rfl) (fun K hK => ?_)
                go_simp
                go_at_call 30
                ((with_reducible refine (HFO.out _).mono ?_); rintro e w2 ⟨A2, c2, rfl, hown2, hb2⟩)
                have hb2' := below_of_drew hb2
                refine hK.out _ _ (HKS.out _ hb2') (fun hHeld => ?_)
                clear hK K
                try simp only [Act.put, List.setIfInBounds_toArray, List.set_cons_zero, List.set_cons_succ]
                refine region_call 10 rfl (by kernel_rfl) (by rfl) (fun K hK => ?_)
                go_simp
                go_at_call 38
                ((with_reducible refine (HBG.out A2 c2 _ hown2 hb2').mono ?_); rintro e w3 ⟨rfl, q3, rfl⟩)
                have hb3 := below_drewN hb2' q3
                have HB3 := Lib.hid hb3
                clear hb2 hb2' hown2 hb3
                generalize w2.drewN q3 = w4 at *
                refine hK.out _ _ (HKS.out _ HB3.out) (fun hHeld => ?_)
                clear hK K
                try simp only [Act.put, List.setIfInBounds_toArray, List.set_cons_zero, List.set_cons_succ]
                refine region_take 11 ?_ rfl (by kernel_rfl) (by rfl) hHeld ?_ ?_
                rotate_left
                · intro w hSw
                  (try dsimp only at hSw)
                  go_simp
                  try with_reducible rfl
                try simp only [Act.put, List.setIfInBounds_toArray, List.set_cons_zero, List.set_cons_succ]
                refine region_take 12 ?_ rfl (by kernel_rfl) (by rfl) hHeld ?_ ?_
                rotate_left
                · intro w hSw
                  (try dsimp only at hSw)
                  go_simp
                  try with_reducible rfl
                try simp only [Act.put, List.setIfInBounds_toArray, List.set_cons_zero, List.set_cons_succ]
                refine region_take 13 ?_ rfl (by kernel_rfl) (by rfl) hHeld ?_ ?_
                rotate_left
                · intro w hSw
                  (try dsimp only at hSw)
                  go_simp
                  try with_reducible rfl
                try simp only [Act.put, List.setIfInBounds_toArray, List.set_cons_zero, List.set_cons_succ]
                refine region_take 16 ?_ rfl (by kernel_rfl) (by rfl) hHeld ?_ ?_
                rotate_left
                · intro w hSw
                  (try dsimp only at hSw)
                  go_simp
                  try with_reducible rfl
                try simp only [Act.put, List.setIfInBounds_toArray, List.set_cons_zero, List.set_cons_succ]
                refine region_take 17 ?_ rfl (by kernel_rfl) (by rfl) hHeld ?_ ?_
                rotate_left
                · intro w hSw
                  (try dsimp only at hSw)
                  go_simp
                  try with_reducible rfl
                try simp only [Act.put, List.setIfInBounds_toArray, List.set_cons_zero, List.set_cons_succ]
                refine region_call 14 rfl (by kernel_rfl) (by rfl) (fun K hK => ?_)
                go_simp
                go_at_call 30
                ((with_reducible refine (HFO.out _).mono ?_); rintro e w5 ⟨A5, c5, rfl, _, hb5⟩)
                have hb5' := below_step HB3.out hb5
                refine hK.out _ _ (HKS.out _ hb5') (fun hHeld => ?_)
                clear hK K
                try simp only [Act.put, List.setIfInBounds_toArray, List.set_cons_zero, List.set_cons_succ]
                refine region_take 15 ?_ rfl (by kernel_rfl) (by rfl) hHeld ?_ ?_
                rotate_left
                · intro w hSw
                  (try dsimp only at hSw)
                  go_simp
                  try with_reducible rfl
                try simp only [Act.put, List.setIfInBounds_toArray, List.set_cons_zero, List.set_cons_succ]
                refine region_take 18 ?_ rfl (by kernel_rfl) (by rfl) hHeld ?_ ?_
                rotate_left
                · intro w hSw
                  (try dsimp only at hSw)
                  go_simp
                  try with_reducible rfl
                try simp only [Act.put, List.setIfInBounds_toArray, List.set_cons_zero, List.set_cons_succ]
                refine region_take 19 ?_ rfl (by kernel_rfl) (by rfl) hHeld ?_ ?_
                rotate_left
                · intro w hSw
                  (try dsimp only at hSw)
                  go_simp
                  try with_reducible rfl
                try simp only [Act.put, List.setIfInBounds_toArray, List.set_cons_zero, List.set_cons_succ]
                refine region_done (by kernel_rfl) ?_
                clear wk
                have h9 := H.out.below hb5'
                have t9 : Touch g w (w5) := Touch.of_below hb5'
                have H9 := Lib.hid h9
                have T9 := Lib.hid t9
                have c9 := h9.cell1
                have f9 : (w5).frozen? ⟨g, 1, none⟩ = false := h9.1.frozen 1
                clear h9 t9 hb5 hb5'
                generalize w5 = w9 at *
                go_wp2_with fail
                go_ret
                rw [HSC.out]
                exact ⟨rfl, (H9.out.fault 3).rd, T9.out.set_ 1 _⟩
            · have HBG : Hid (∀ A2 c2 w', Holds w' A2 (bytesV (leb u)) → Below w.heap.size w w' → Calls Try.prog 38 #[.slice A2 nl c2, .slice (some ⟨bb, o, none⟩) L c] w' fun e w'' => e = .returned (.bool false) ∧ ∃ q, w'' = w'.drewN q) := fun A2 c2 w' h1 h2 =>
                begins_n A2 _ c2 c nl L (leb u) b w' HNL.out.symm HL.out.symm h1 (hA0.out.below h2) (by omega) false (by simpa using hbg)
              have HSC := Lib.hid (next_none (most := most) HB.out hkl (by rw [← HX.out]; omega) hu'.out HM.out HNL.out (fun h => hbg h.2.1))
              clear hbg
              generalize leb u = l at *
              go_wp2_with fail
              refine region_begin (S := fun w' => w'.cell? ⟨g, 0, none⟩ = some (.slice (some ⟨bb, o, none⟩) L c) ∧ Below w.heap.size w w') (by kernel_rfl) (HKS.out _ (below_drewN (Below.refl _ _) 1)) (fun hHeld => ?_)
              refine region_take 0 ?_ rfl (by kernel_rfl) (by rfl) hHeld ?_ ?_
              rotate_left
              · intro w hSw
                (try dsimp only at hSw)
                go_simp
                try with_reducible rfl
              try simp only [Act.put, List.setIfInBounds_toArray, List.set_cons_zero, List.set_cons_succ]
              refine region_take 1 ?_ rfl (by kernel_rfl) (by rfl) hHeld ?_ ?_
              rotate_left
              · intro w hSw
                (try dsimp only at hSw)
                go_simp
                try with_reducible rfl
              try simp only [Act.put, List.setIfInBounds_toArray, List.set_cons_zero, List.set_cons_succ]
              refine region_take 2 ?_ rfl (by kernel_rfl) (by rfl) hHeld ?_ ?_
              rotate_left
              · intro w hSw
                (try dsimp only at hSw)
                go_simp
                try with_reducible rfl
              try simp only [Act.put, List.setIfInBounds_toArray, List.set_cons_zero, List.set_cons_succ]
              refine region_take 3 ?_ rfl (by kernel_rfl) (by rfl) hHeld ?_ ?_
              rotate_left
              · intro w hSw
                (try dsimp only at hSw)
                go_simp
                try with_reducible rfl
              try simp only [Act.put, List.setIfInBounds_toArray, List.set_cons_zero, List.set_cons_succ]
              refine region_take 4 ?_ rfl (by kernel_rfl) (by rfl) hHeld ?_ ?_
              rotate_left
              · intro w hSw
                (try dsimp only at hSw)
                go_simp
                try with_reducible rfl
              try simp only [Act.put, List.setIfInBounds_toArray, List.set_cons_zero, List.set_cons_succ]
              refine region_take 6 ?_ rfl (by kernel_rfl) (by rfl) hHeld ?_ ?_
              rotate_left
              · intro w hSw
                (try dsimp only at hSw)
                go_simp
                try with_reducible rfl
              try simp only [Act.put, List.setIfInBounds_toArray, List.set_cons_zero, List.set_cons_succ]
              refine region_take 7 ?_ rfl (by kernel_rfl) (by rfl) hHeld ?_ ?_
              rotate_left
              · intro w hSw
                (try dsimp only at hSw)
                go_simp
                try with_reducible rfl
              try simp only [Act.put, List.setIfInBounds_toArray, List.set_cons_zero, List.set_cons_succ]
              refine region_take 8 ?_ rfl (by kernel_rfl) (by rfl) hHeld ?_ ?_
              rotate_left
              · intro w hSw
                (try dsimp only at hSw)
                go_simp
                try with_reducible rfl
              try simp only [Act.put, List.setIfInBounds_toArray, List.set_cons_zero, List.set_cons_succ]
              refine region_take 9 ?_ rfl (by kernel_rfl) (by rfl) hHeld ?_ ?_
              rotate_left
              · intro w hSw
                (try dsimp only at hSw)
                go_simp
                try with_reducible rfl
              try simp only [Act.put, List.setIfInBounds_toArray, List.set_cons_zero, List.set_cons_succ]
              refine region_call 5 rfl (by kernel_rfl) (by rfl) (fun K hK => ?_)
              go_simp
              go_at_call 30
              ((with_reducible refine (HFO.out _).mono ?_); rintro e w2 ⟨A2, c2, rfl, hown2, hb2⟩)
              have hb2' := below_of_drew hb2
              refine hK.out _ _ (HKS.out _ hb2') (fun hHeld => ?_)
              clear hK K
              try simp only [Act.put, List.setIfInBounds_toArray, List.set_cons_zero, List.set_cons_succ]
              refine region_call 10 rfl (by kernel_rfl) (by rfl) (fun K hK => ?_)
              go_simp
              go_at_call 38
              ((with_reducible refine (HBG.out A2 c2 _ hown2 hb2').mono ?_); rintro e w3 ⟨rfl, q3, rfl⟩)
              refine hK.out _ _ (HKS.out _ (below_drewN hb2' _)) (fun hHeld => ?_)
              clear hK K
              try simp only [Act.put, List.setIfInBounds_toArray, List.set_cons_zero, List.set_cons_succ]
              refine region_take 11 ?_ rfl (by kernel_rfl) (by rfl) hHeld ?_ ?_
              rotate_left
              · intro w hSw
                (try dsimp only at hSw)
                go_simp
                try with_reducible rfl
              try simp only [Act.put, List.setIfInBounds_toArray, List.set_cons_zero, List.set_cons_succ]
              refine region_take 12 ?_ rfl (by kernel_rfl) (by rfl) hHeld ?_ ?_
              rotate_left
              · intro w hSw
                (try dsimp only at hSw)
                go_simp
                try with_reducible rfl
              try simp only [Act.put, List.setIfInBounds_toArray, List.set_cons_zero, List.set_cons_succ]
              refine region_skip 13 rfl (by kernel_rfl) (by rfl) hHeld ?_
              try simp only [Act.put, List.setIfInBounds_toArray, List.set_cons_zero, List.set_cons_succ]
              refine region_skip 14 rfl (by kernel_rfl) (by rfl) hHeld ?_
              try simp only [Act.put, List.setIfInBounds_toArray, List.set_cons_zero, List.set_cons_succ]
              refine region_skip 15 rfl (by kernel_rfl) (by rfl) hHeld ?_
              try simp only [Act.put, List.setIfInBounds_toArray, List.set_cons_zero, List.set_cons_succ]
              refine region_skip 16 rfl (by kernel_rfl) (by rfl) hHeld ?_
              try simp only [Act.put, List.setIfInBounds_toArray, List.set_cons_zero, List.set_cons_succ]
              refine region_skip 17 rfl (by kernel_rfl) (by rfl) hHeld ?_
              try simp only [Act.put, List.setIfInBounds_toArray, List.set_cons_zero, List.set_cons_succ]
              refine region_skip 18 rfl (by kernel_rfl) (by rfl) hHeld ?_
              try simp only [Act.put, List.setIfInBounds_toArray, List.set_cons_zero, List.set_cons_succ]
              refine region_take 19 ?_ rfl (by kernel_rfl) (by rfl) hHeld ?_ ?_
              rotate_left
              · intro w hSw
                (try dsimp only at hSw)
                go_simp
                try with_reducible rfl
              try simp only [Act.put, List.setIfInBounds_toArray, List.set_cons_zero, List.set_cons_succ]
              refine region_done (by kernel_rfl) ?_
              have h9 := H.out.below (below_drewN hb2' q3)
              have t9 : Touch g w (w2.drewN q3) := Touch.of_below (below_drewN hb2' q3)
              have H9 := Lib.hid h9
              have T9 := Lib.hid t9
              have c9 := h9.cell1
              have f9 : (w2.drewN q3).frozen? ⟨g, 1, none⟩ = false := h9.1.frozen 1
              clear h9 t9 hb2 hb2' hown2
              generalize w2.drewN q3 = w9 at *
              go_wp2_with fail
              go_ret
              rw [HSC.out]
              exact ⟨rfl, (H9.out.fault 3).rd, T9.out.set_ 1 _⟩
          · have t3 : ¬ (u : Int) ≤ (most : Int) := by omega
            have hd : decide ((u : Int) ≤ (most : Int)) = false := by simpa using t3
            have hsc := Lib.hid (next_none (most := most) HB.out hkl (by rw [← HX.out]; omega) hu'.out HM.out rfl (fun h => hum h.1))
            go_wp2_with fail
            go_quiet (fail)
            go_wp2_with fail
            go_ret
            rw [hsc.out]
            exact ⟨rfl, ((H.out.drewN nq).fault 3).rd, ((Touch.refl g w).drewN nq).set_ 1 _⟩
      · have HSC := Lib.hid (scan_long (most := most) (fun j h hj => HB.out j h (by omega)) (by rw [← HL.out]; omega) HM.out)
        obtain ⟨l, hl⟩ : ∃ l, l = (V + W) % 18446744073709551616 := ⟨_, rfl⟩
        have e4 : IntKind.u64.wrap ((V : Int) + (W : Int)) = (l : Int) := by rw [hl, ← u64_wrap_nat]; norm_cast
        have t6 : (9 : Int) < (L : Int) := by omega
        have t7 : (0 : Int) < (L : Int) := by omega
        have h1 := H.out.fault 4
        have T1 : Hid (Touch g w (w.setCell ⟨g, 1, none⟩ (.int .i64 4))) := (Touch.refl g w).set_ 1 _
        have H1 : Hid (RdAt t (w.setCell ⟨g, 1, none⟩ (.int .i64 4)) g A c (b, 4)) := h1
        have d0 : (w.setCell ⟨g, 1, none⟩ (.int .i64 4)).cell? ⟨g, 0, none⟩ = some (.slice A L c) := by rw [HL.out]; exact h1.cell0
        have d1 : (w.setCell ⟨g, 1, none⟩ (.int .i64 4)).cell? ⟨g, 1, none⟩ = some (.int .i64 4) := h1.cell1
        have f1' : (w.setCell ⟨g, 1, none⟩ (.int .i64 4)).frozen? ⟨g, 1, none⟩ = false := h1.1.frozen 1
        clear h1 hl
        go_wp2_with fail
        generalize w.setCell ⟨g, 1, none⟩ (.int .i64 4) = w1 at *
        go_quiet (fail)
        go_wp2_with fail
        go_ret
        rw [HSC.out]
        exact ⟨rfl, ((H1.out.drewN nq).fault 3).rd, (T1.out.drewN nq).set_ 1 _⟩
    · have hkL : k = L := by omega
      subst hkL
      have hall : ∀ x ∈ b, 128 ≤ x := fun x hx => by
        obtain ⟨j, hj, rfl⟩ := List.mem_iff_getElem.1 hx
        exact HB.out j hj (by have := HL.out; omega)
      have HALL := Lib.hid hall
      have hby := H.out.2.2.2.2.1
      have HBY := Lib.hid hby
      have H1 : Hid (RdAt t (w.setCell ⟨g, 1, none⟩ (.int .i64 4)) g A c (b, 4)) := H.out.fault 4
      have T1 : Hid (Touch g w (w.setCell ⟨g, 1, none⟩ (.int .i64 4))) := (Touch.refl g w).set_ 1 _
      have d0 : (w.setCell ⟨g, 1, none⟩ (.int .i64 4)).cell? ⟨g, 0, none⟩ = some (.slice A k c) := by rw [HL.out]; exact H1.out.cell0
      have d1 : (w.setCell ⟨g, 1, none⟩ (.int .i64 4)).cell? ⟨g, 1, none⟩ = some (.int .i64 4) := H1.out.cell1
      have f1' : (w.setCell ⟨g, 1, none⟩ (.int .i64 4)).frozen? ⟨g, 1, none⟩ = false := H1.out.1.frozen 1
      clear hall hby
      by_cases hk0 : k = 0
      · subst hk0
        have hb0 : b = [] := List.eq_nil_of_length_eq_zero HL.out.symm
        have HSC := Lib.hid (scan_more (most := most) HBY.out HALL.out (.inl hb0))
        clear hb0
        go_wp2_with fail
        go_ret
        rw [HSC.out]
        exact ⟨rfl, H1.out.rd, T1.out⟩
      · have hkp : 0 < k := by omega
        have t7 : (0 : Int) < (k : Int) := by omega
        by_cases hk9 : k ≤ 9
        · have t6 : ¬ (9 : Int) < (k : Int) := by omega
          have hW1 : W = 128 ^ k := by
            rw [HW.out, Nat.mod_eq_of_lt]
            exact Nat.lt_of_le_of_lt (Nat.pow_le_pow_right (by decide) hk9) (by decide)
          have hV1 : V = val b := by
            rw [HV.out, HL.out, List.take_length, Nat.mod_eq_of_lt]
            exact Nat.lt_of_lt_of_le (val_lt b) (Nat.le_trans (Nat.pow_le_pow_right (by decide) (by rw [← HL.out]; exact hk9)) (by decide : 128 ^ 9 ≤ 18446744073709551616))
          have hVl : V < 128 ^ k := by rw [hV1, HL.out]; exact val_lt b
          have hWl : 128 ^ k ≤ 9223372036854775808 := Nat.le_trans (Nat.pow_le_pow_right (by decide) hk9) (by decide)
          obtain ⟨l, hl⟩ : ∃ l, l = V + W := ⟨_, rfl⟩
          have hlb : l < 18446744073709551616 := by rw [hl, hW1]; omega
          have e4 : IntKind.u64.wrap ((V : Int) + (W : Int)) = (l : Int) := by rw [← Int.natCast_add, ← hl, u64_wrap_nat, Nat.mod_eq_of_lt hlb]
          have t8 : ¬ (l : Int) < (W : Int) := by omega
          have hlv : l = val b + 128 ^ b.length := by rw [hl, hV1, hW1, HL.out]
          have HLV := Lib.hid hlv
          have HLB := Lib.hid hlb
          clear hW1 hV1 hVl hWl hl hlb hlv
          by_cases hlm : most < l
          · have t9 : (most : Int) < (l : Int) := by omega
            have HSC := Lib.hid (scan_less (most := most) HALL.out (fun e => hk0 (by rw [HL.out, e]; rfl)) (by rw [← HLV.out]; exact hlm))
            go_wp2_with fail
            generalize w.setCell ⟨g, 1, none⟩ (.int .i64 4) = w1 at *
            have hd8 : decide ((l : Int) < (W : Int)) = false := by simpa using t8
            have hd8n : decide (l < W) = false := by simpa using Int.ofNat_le.1 t8
            have hd6 : decide ((9 : Int) < (k : Int)) = false := by simpa using t6
            have HKS : Hid (∀ w', Below w1.heap.size w1 w' → w'.cell? ⟨g, 0, none⟩ = some (.slice A k c) ∧ Below w1.heap.size w1 w') := fun w' hb => ⟨(hb.cell (p := ⟨g, 0, none⟩) H1.out.1.lt).trans d0, hb⟩
            refine region_begin (S := fun w' => w'.cell? ⟨g, 0, none⟩ = some (.slice A k c) ∧ Below w1.heap.size w1 w') (by kernel_rfl) (HKS.out _ (below_drewN (Below.refl _ _) 1)) (fun hHeld => ?_)
            refine region_take 0 ?_ rfl (by kernel_rfl) (by rfl) hHeld ?_ ?_
            rotate_left
            · intro w hSw
              (try dsimp only at hSw)
              go_simp
              try with_reducible rfl
            try simp only [Act.put, List.setIfInBounds_toArray, List.set_cons_zero, List.set_cons_succ]
            refine region_take 1 ?_ rfl (by kernel_rfl) (by rfl) hHeld ?_ ?_
            rotate_left
            · intro w hSw
              (try dsimp only at hSw)
              go_simp
              try with_reducible rfl
            try simp only [Act.put, List.setIfInBounds_toArray, List.set_cons_zero, List.set_cons_succ]
            refine region_take 2 ?_ rfl (by kernel_rfl) (by rfl) hHeld ?_ ?_
            rotate_left
            · intro w hSw
              (try dsimp only at hSw)
              go_simp
              try with_reducible rfl
            try simp only [Act.put, List.setIfInBounds_toArray, List.set_cons_zero, List.set_cons_succ]
            refine region_take 3 ?_ rfl (by kernel_rfl) (by rfl) hHeld ?_ ?_
            rotate_left
            · intro w hSw
              (try dsimp only at hSw)
              go_simp
              try with_reducible rfl
            try simp only [Act.put, List.setIfInBounds_toArray, List.set_cons_zero, List.set_cons_succ]
            refine region_take 4 ?_ rfl (by kernel_rfl) (by rfl) hHeld ?_ ?_
            rotate_left
            · intro w hSw
              (try dsimp only at hSw)
              go_simp
              try with_reducible rfl
            try simp only [Act.put, List.setIfInBounds_toArray, List.set_cons_zero, List.set_cons_succ]
            refine region_take 5 ?_ rfl (by kernel_rfl) (by rfl) hHeld ?_ ?_
            rotate_left
            · intro w hSw
              (try dsimp only at hSw)
              go_simp
              try with_reducible rfl
            try simp only [Act.put, List.setIfInBounds_toArray, List.set_cons_zero, List.set_cons_succ]
            refine region_take 6 ?_ rfl (by kernel_rfl) (by rfl) hHeld ?_ ?_
            rotate_left
            · intro w hSw
              (try dsimp only at hSw)
              go_simp
              try with_reducible rfl
            try simp only [Act.put, List.setIfInBounds_toArray, List.set_cons_zero, List.set_cons_succ]
            refine region_take 7 ?_ rfl (by kernel_rfl) (by rfl) hHeld ?_ ?_
            rotate_left
            · intro w hSw
              (try dsimp only at hSw)
              go_simp
              try with_reducible rfl
            try simp only [Act.put, List.setIfInBounds_toArray, List.set_cons_zero, List.set_cons_succ]
            refine region_take 8 ?_ rfl (by kernel_rfl) (by rfl) hHeld ?_ ?_
            rotate_left
            · intro w hSw
              (try dsimp only at hSw)
              go_simp
              try with_reducible rfl
            try simp only [Act.put, List.setIfInBounds_toArray, List.set_cons_zero, List.set_cons_succ]
            refine region_take 9 ?_ rfl (by kernel_rfl) (by rfl) hHeld ?_ ?_
            rotate_left
            · intro w hSw
              (try dsimp only at hSw)
              go_simp
              try with_reducible rfl
            try simp only [Act.put, List.setIfInBounds_toArray, List.set_cons_zero, List.set_cons_succ]
            refine region_take 10 ?_ rfl (by kernel_rfl) (by rfl) hHeld ?_ ?_
            rotate_left
            · intro w hSw
              (try dsimp only at hSw)
              go_simp
              try with_reducible rfl
            try simp only [Act.put, List.setIfInBounds_toArray, List.set_cons_zero, List.set_cons_succ]
            refine region_take 11 ?_ rfl (by kernel_rfl) (by rfl) hHeld ?_ ?_
            rotate_left
            · intro w hSw
              (try dsimp only at hSw)
              go_simp
              try with_reducible rfl
            try simp only [Act.put, List.setIfInBounds_toArray, List.set_cons_zero, List.set_cons_succ]
            refine region_take 12 ?_ rfl (by kernel_rfl) (by rfl) hHeld ?_ ?_
            rotate_left
            · intro w hSw
              (try dsimp only at hSw)
              go_simp
              try with_reducible rfl
            try simp only [Act.put, List.setIfInBounds_toArray, List.set_cons_zero, List.set_cons_succ]
            refine region_take 13 ?_ rfl (by kernel_rfl) (by rfl) hHeld ?_ ?_
            rotate_left
            · intro w hSw
              (try dsimp only at hSw)
              go_simp
              try with_reducible rfl
            try simp only [Act.put, List.setIfInBounds_toArray, List.set_cons_zero, List.set_cons_succ]
            refine region_take 14 ?_ rfl (by kernel_rfl) (by rfl) hHeld ?_ ?_
            rotate_left
            · intro w hSw
              (try dsimp only at hSw)
              go_simp
              try with_reducible rfl
            try simp only [Act.put, List.setIfInBounds_toArray, List.set_cons_zero, List.set_cons_succ]
            refine region_take 15 ?_ rfl (by kernel_rfl) (by rfl) hHeld ?_ ?_
            rotate_left
            · intro w hSw
              (try dsimp only at hSw)
              go_simp
              try with_reducible rfl
            try simp only [Act.put, List.setIfInBounds_toArray, List.set_cons_zero, List.set_cons_succ]
            refine region_take 16 ?_ rfl (by kernel_rfl) (by rfl) hHeld ?_ ?_
            rotate_left
            · intro w hSw
              (try dsimp only at hSw)
              go_simp
              try with_reducible rfl
            try simp only [Act.put, List.setIfInBounds_toArray, List.set_cons_zero, List.set_cons_succ]
            refine region_skip 17 rfl (by kernel_rfl) (by rfl) hHeld ?_
            try simp only [Act.put, List.setIfInBounds_toArray, List.set_cons_zero, List.set_cons_succ]
            refine region_skip 18 rfl (by kernel_rfl) (by rfl) hHeld ?_
            try simp only [Act.put, List.setIfInBounds_toArray, List.set_cons_zero, List.set_cons_succ]
            refine region_skip 19 rfl (by kernel_rfl) (by rfl) hHeld ?_
            try simp only [Act.put, List.setIfInBounds_toArray, List.set_cons_zero, List.set_cons_succ]
            refine region_skip 20 rfl (by kernel_rfl) (by rfl) hHeld ?_
            try simp only [Act.put, List.setIfInBounds_toArray, List.set_cons_zero, List.set_cons_succ]
            refine region_skip 21 rfl (by kernel_rfl) (by rfl) hHeld ?_
            try simp only [Act.put, List.setIfInBounds_toArray, List.set_cons_zero, List.set_cons_succ]
            refine region_skip 22 rfl (by kernel_rfl) (by rfl) hHeld ?_
            try simp only [Act.put, List.setIfInBounds_toArray, List.set_cons_zero, List.set_cons_succ]
            refine region_skip 23 rfl (by kernel_rfl) (by rfl) hHeld ?_
            try simp only [Act.put, List.setIfInBounds_toArray, List.set_cons_zero, List.set_cons_succ]
            refine region_skip 24 rfl (by kernel_rfl) (by rfl) hHeld ?_
            try simp only [Act.put, List.setIfInBounds_toArray, List.set_cons_zero, List.set_cons_succ]
            refine region_take 25 ?_ rfl (by kernel_rfl) (by rfl) hHeld ?_ ?_
            rotate_left
            · intro w hSw
              (try dsimp only at hSw)
              go_simp
              try with_reducible rfl
            try simp only [Act.put, List.setIfInBounds_toArray, List.set_cons_zero, List.set_cons_succ]
            refine region_done (by kernel_rfl) ?_
            have c9 : w1.drew.cell? ⟨g, 1, none⟩ = some (.int .i64 4) := d1
            have f9 : w1.drew.frozen? ⟨g, 1, none⟩ = false := f1'
            go_wp2_with fail
            go_ret
            rw [HSC.out]
            exact ⟨rfl, ((H1.out.drewN 1).fault 3).rd, (T1.out.drewN 1).set_ 1 _⟩
          · have t9 : ¬ (most : Int) < (l : Int) := by omega
            have HSC := Lib.hid (scan_more (most := most) HBY.out HALL.out (.inr (by rw [← HLV.out]; omega)))
            have hbe := begun (b := b) fun x hx => ⟨HALL.out x hx, HBY.out x hx⟩
            rw [← HLV.out] at hbe
            have HBE := Lib.hid hbe
            obtain ⟨nl, hnl⟩ : ∃ nl, nl = (leb l).length := ⟨_, rfl⟩
            have HNL := Lib.hid hnl
            have HFO := Lib.hid fun w => form_n l nl w HLB.out hnl.symm
            clear hbe hnl
            go_wp2_with fail
            generalize w.setCell ⟨g, 1, none⟩ (.int .i64 4) = w1 at *
            have HKS : Hid (∀ w', Below w1.heap.size w1 w' → w'.cell? ⟨g, 0, none⟩ = some (.slice A k c) ∧ Below w1.heap.size w1 w') := fun w' hb => ⟨(hb.cell (p := ⟨g, 0, none⟩) H1.out.1.lt).trans d0, hb⟩
            have HBG : Hid (∀ A2 c2 w', Holds w' A2 (bytesV (leb l)) → Below w1.heap.size w1 w' → Calls Try.prog 38 #[.slice A k c, .slice A2 nl c2] w' fun e w'' => e = .returned (.bool true) ∧ ∃ q, w'' = w'.drewN q) := fun A2 c2 w' h1 h2 =>
              begins_n A A2 c c2 k nl b (leb l) w' HL.out.symm HNL.out.symm (H1.out.2.2.1.below h2) h1 (by omega) true (by rw [HBE.out, HL.out, List.take_left]; simp)
            have hd8 : decide ((l : Int) < (W : Int)) = false := by simpa using t8
            have hd8n : decide (l < W) = false := by simpa using Int.ofNat_le.1 t8
            have hd6 : decide ((9 : Int) < (k : Int)) = false := by simpa using t6
            have hd9 : decide ((most : Int) < (l : Int)) = false := by simpa using t9
            generalize leb l = ll at *
            refine region_begin (S := fun w' => w'.cell? ⟨g, 0, none⟩ = some (.slice A k c) ∧ Below w1.heap.size w1 w') (by kernel_rfl) (HKS.out _ (below_drewN (Below.refl _ _) 1)) (fun hHeld => ?_)
            refine region_take 0 ?_ rfl (by kernel_rfl) (by rfl) hHeld ?_ ?_
            rotate_left
            · intro w hSw
              (try dsimp only at hSw)
              go_simp
              try with_reducible rfl
            try simp only [Act.put, List.setIfInBounds_toArray, List.set_cons_zero, List.set_cons_succ]
            refine region_take 1 ?_ rfl (by kernel_rfl) (by rfl) hHeld ?_ ?_
            rotate_left
            · intro w hSw
              (try dsimp only at hSw)
              go_simp
              try with_reducible rfl
            try simp only [Act.put, List.setIfInBounds_toArray, List.set_cons_zero, List.set_cons_succ]
            refine region_take 2 ?_ rfl (by kernel_rfl) (by rfl) hHeld ?_ ?_
            rotate_left
            · intro w hSw
              (try dsimp only at hSw)
              go_simp
              try with_reducible rfl
            try simp only [Act.put, List.setIfInBounds_toArray, List.set_cons_zero, List.set_cons_succ]
            refine region_take 3 ?_ rfl (by kernel_rfl) (by rfl) hHeld ?_ ?_
            rotate_left
            · intro w hSw
              (try dsimp only at hSw)
              go_simp
              try with_reducible rfl
            try simp only [Act.put, List.setIfInBounds_toArray, List.set_cons_zero, List.set_cons_succ]
            refine region_take 4 ?_ rfl (by kernel_rfl) (by rfl) hHeld ?_ ?_
            rotate_left
            · intro w hSw
              (try dsimp only at hSw)
              go_simp
              try with_reducible rfl
            try simp only [Act.put, List.setIfInBounds_toArray, List.set_cons_zero, List.set_cons_succ]
            refine region_take 5 ?_ rfl (by kernel_rfl) (by rfl) hHeld ?_ ?_
            rotate_left
            · intro w hSw
              (try dsimp only at hSw)
              go_simp
              try with_reducible rfl
            try simp only [Act.put, List.setIfInBounds_toArray, List.set_cons_zero, List.set_cons_succ]
            refine region_take 6 ?_ rfl (by kernel_rfl) (by rfl) hHeld ?_ ?_
            rotate_left
            · intro w hSw
              (try dsimp only at hSw)
              go_simp
              try with_reducible rfl
            try simp only [Act.put, List.setIfInBounds_toArray, List.set_cons_zero, List.set_cons_succ]
            refine region_take 7 ?_ rfl (by kernel_rfl) (by rfl) hHeld ?_ ?_
            rotate_left
            · intro w hSw
              (try dsimp only at hSw)
              go_simp
              try with_reducible rfl
            try simp only [Act.put, List.setIfInBounds_toArray, List.set_cons_zero, List.set_cons_succ]
            refine region_take 8 ?_ rfl (by kernel_rfl) (by rfl) hHeld ?_ ?_
            rotate_left
            · intro w hSw
              (try dsimp only at hSw)
              go_simp
              try with_reducible rfl
            try simp only [Act.put, List.setIfInBounds_toArray, List.set_cons_zero, List.set_cons_succ]
            refine region_take 9 ?_ rfl (by kernel_rfl) (by rfl) hHeld ?_ ?_
            rotate_left
            · intro w hSw
              (try dsimp only at hSw)
              go_simp
              try with_reducible rfl
            try simp only [Act.put, List.setIfInBounds_toArray, List.set_cons_zero, List.set_cons_succ]
            refine region_take 10 ?_ rfl (by kernel_rfl) (by rfl) hHeld ?_ ?_
            rotate_left
            · intro w hSw
              (try dsimp only at hSw)
              go_simp
              try with_reducible rfl
            try simp only [Act.put, List.setIfInBounds_toArray, List.set_cons_zero, List.set_cons_succ]
            refine region_take 11 ?_ rfl (by kernel_rfl) (by rfl) hHeld ?_ ?_
            rotate_left
            · intro w hSw
              (try dsimp only at hSw)
              go_simp
              try with_reducible rfl
            try simp only [Act.put, List.setIfInBounds_toArray, List.set_cons_zero, List.set_cons_succ]
            refine region_take 12 ?_ rfl (by kernel_rfl) (by rfl) hHeld ?_ ?_
            rotate_left
            · intro w hSw
              (try dsimp only at hSw)
              go_simp
              try with_reducible rfl
            try simp only [Act.put, List.setIfInBounds_toArray, List.set_cons_zero, List.set_cons_succ]
            refine region_take 13 ?_ rfl (by kernel_rfl) (by rfl) hHeld ?_ ?_
            rotate_left
            · intro w hSw
              (try dsimp only at hSw)
              go_simp
              try with_reducible rfl
            try simp only [Act.put, List.setIfInBounds_toArray, List.set_cons_zero, List.set_cons_succ]
            refine region_take 14 ?_ rfl (by kernel_rfl) (by rfl) hHeld ?_ ?_
            rotate_left
            · intro w hSw
              (try dsimp only at hSw)
              go_simp
              try with_reducible rfl
            try simp only [Act.put, List.setIfInBounds_toArray, List.set_cons_zero, List.set_cons_succ]
            refine region_take 15 ?_ rfl (by kernel_rfl) (by rfl) hHeld ?_ ?_
            rotate_left
            · intro w hSw
              (try dsimp only at hSw)
              go_simp
              try with_reducible rfl
            try simp only [Act.put, List.setIfInBounds_toArray, List.set_cons_zero, List.set_cons_succ]
            refine region_take 16 ?_ rfl (by kernel_rfl) (by rfl) hHeld ?_ ?_
            rotate_left
            · intro w hSw
              (try dsimp only at hSw)
              go_simp
              try with_reducible rfl
            try simp only [Act.put, List.setIfInBounds_toArray, List.set_cons_zero, List.set_cons_succ]
            refine region_take 17 ?_ rfl (by kernel_rfl) (by rfl) hHeld ?_ ?_
            rotate_left
            · intro w hSw
              (try dsimp only at hSw)
              go_simp
              try with_reducible rfl
            try simp only [Act.put, List.setIfInBounds_toArray, List.set_cons_zero, List.set_cons_succ]
            refine region_take 18 ?_ rfl (by kernel_rfl) (by rfl) hHeld ?_ ?_
            rotate_left
            · intro w hSw
              (try dsimp only at hSw)
              go_simp
              try with_reducible rfl
            try simp only [Act.put, List.setIfInBounds_toArray, List.set_cons_zero, List.set_cons_succ]
            refine region_take 19 ?_ rfl (by kernel_rfl) (by rfl) hHeld ?_ ?_
            rotate_left
            · intro w hSw
              (try dsimp only at hSw)
              go_simp
              try with_reducible rfl
            try simp only [Act.put, List.setIfInBounds_toArray, List.set_cons_zero, List.set_cons_succ]
            refine region_take 20 ?_ rfl (by kernel_rfl) (by rfl) hHeld ?_ ?_
            rotate_left
            · intro w hSw
              (try dsimp only at hSw)
              go_simp
              try with_reducible rfl
            try simp only [Act.put, List.setIfInBounds_toArray, List.set_cons_zero, List.set_cons_succ]
            refine region_take 21 ?_ rfl (by kernel_rfl) (by rfl) hHeld ?_ ?_
            rotate_left
            · intro w hSw
              (try dsimp only at hSw)
              go_simp
              try with_reducible rfl
            try simp only [Act.put, List.setIfInBounds_toArray, List.set_cons_zero, List.set_cons_succ]
            refine region_call 22 rfl (by kernel_rfl) (by rfl) (fun K hK => ?_)
            go_simp
            go_at_call 30
            ((with_reducible refine (HFO.out _).mono ?_); rintro e w2 ⟨A2, c2, rfl, hown2, hb2⟩)
            have hb2' := below_of_drew hb2
            refine hK.out _ _ (HKS.out _ hb2') (fun hHeld => ?_)
            clear hK K
            try simp only [Act.put, List.setIfInBounds_toArray, List.set_cons_zero, List.set_cons_succ]
            refine region_call 23 rfl (by kernel_rfl) (by rfl) (fun K hK => ?_)
            go_simp
            go_at_call 38
            ((with_reducible refine (HBG.out A2 c2 _ hown2 hb2').mono ?_); rintro e w3 ⟨rfl, q3, rfl⟩)
            refine hK.out _ _ (HKS.out _ (below_drewN hb2' _)) (fun hHeld => ?_)
            clear hK K
            try simp only [Act.put, List.setIfInBounds_toArray, List.set_cons_zero, List.set_cons_succ]
            refine region_take 24 ?_ rfl (by kernel_rfl) (by rfl) hHeld ?_ ?_
            rotate_left
            · intro w hSw
              (try dsimp only at hSw)
              go_simp
              try with_reducible rfl
            try simp only [Act.put, List.setIfInBounds_toArray, List.set_cons_zero, List.set_cons_succ]
            refine region_take 25 ?_ rfl (by kernel_rfl) (by rfl) hHeld ?_ ?_
            rotate_left
            · intro w hSw
              (try dsimp only at hSw)
              go_simp
              try with_reducible rfl
            try simp only [Act.put, List.setIfInBounds_toArray, List.set_cons_zero, List.set_cons_succ]
            refine region_done (by kernel_rfl) ?_
            go_wp2_with fail
            go_ret
            rw [HSC.out]
            have hb9 := below_drewN hb2' q3
            exact ⟨rfl, (H1.out.below hb9).rd, T1.out.trans (Touch.of_below hb9)⟩
        · have HSC := Lib.hid (scan_long (most := most) (fun j h hj => HB.out j h (by omega)) (by rw [← HL.out]; omega) HM.out)
          obtain ⟨l, hl⟩ : ∃ l, l = (V + W) % 18446744073709551616 := ⟨_, rfl⟩
          have e4 : IntKind.u64.wrap ((V : Int) + (W : Int)) = (l : Int) := by rw [hl, ← u64_wrap_nat]; norm_cast
          have t6 : (9 : Int) < (k : Int) := by omega
          have t7 : (0 : Int) < (k : Int) := by omega
          have h1 := H.out.fault 4
          have T1 : Hid (Touch g w (w.setCell ⟨g, 1, none⟩ (.int .i64 4))) := (Touch.refl g w).set_ 1 _
          have H1 : Hid (RdAt t (w.setCell ⟨g, 1, none⟩ (.int .i64 4)) g A c (b, 4)) := h1
          have d0 : (w.setCell ⟨g, 1, none⟩ (.int .i64 4)).cell? ⟨g, 0, none⟩ = some (.slice A k c) := by rw [HL.out]; exact h1.cell0
          have d1 : (w.setCell ⟨g, 1, none⟩ (.int .i64 4)).cell? ⟨g, 1, none⟩ = some (.int .i64 4) := h1.cell1
          have f1' : (w.setCell ⟨g, 1, none⟩ (.int .i64 4)).frozen? ⟨g, 1, none⟩ = false := h1.1.frozen 1
          clear h1 hl
          go_wp2_with fail
          generalize w.setCell ⟨g, 1, none⟩ (.int .i64 4) = w1 at *
          go_quiet (fail)
          go_wp2_with fail
          go_ret
          rw [HSC.out]
          exact ⟨rfl, ((H1.out.drewN nq).fault 3).rd, (T1.out.drewN nq).set_ 1 _⟩
end Go.Proofs.Ytbpbokdomdmclaa
