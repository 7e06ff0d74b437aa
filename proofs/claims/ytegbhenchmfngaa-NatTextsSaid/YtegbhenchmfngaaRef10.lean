/- The document's Decimal. -/
import Derived.Test.YtegbhenchmfngaaRef9
import Derived.Test.YtegbhenchmfngaaBase11
import Derived.Test.YtegbhenchmfngaaDecimal
namespace Go.Proofs.Ytegbhenchmfngaa
open Go.RowKit

theorem ints_set (f : Nat → Nat) (n k v : Nat) : (ints f n).set k (.int .i64 (v : Int)) = ints (fun j => if j = k then v else f j) n := by
  refine List.ext_getElem? fun j => ?_
  rw [List.getElem?_set, ints_get, ints_get]
  have hl : (ints f n).length = n := by simp [ints]
  rw [hl]
  by_cases e : j = k
  · subst e
    rw [if_pos rfl]
    by_cases h : j < n
    · rw [if_pos h, if_pos h, if_pos rfl]
    · rw [if_neg h, if_neg h]
  · rw [if_neg (fun h => e h.symm)]
    by_cases h : j < n
    · rw [if_pos h, if_pos h, if_neg e]
    · rw [if_neg h, if_neg h]
theorem ints_step (f g : Nat → Nat) (n j : Nat) : (ints (fun t => if t < j then g t else f t) n).set j (.int .i64 (g j : Int)) = ints (fun t => if t < j + 1 then g t else f t) n :=
  (ints_set _ n j (g j)).trans (ints_congr fun t _ => by
    by_cases e : t = j
    · subst e
      simp only [if_true]
      rw [if_pos (by omega)]
    · simp only [if_neg e]
      by_cases h : t < j
      · rw [if_pos h, if_pos (by omega)]
      · rw [if_neg h, if_neg (by omega)])
/-- The first j digits as bytes, the greatest first. -/
def decs (M L j : Nat) : List Value := (List.range j).map fun t => .int .u8 ((48 + M / 10 ^ (L - 1 - t) % 10 : Nat) : Int)
theorem decs_succ (M L j : Nat) : decs M L (j + 1) = decs M L j ++ [.int .u8 ((48 + M / 10 ^ (L - 1 - j) % 10 : Nat) : Int)] := by
  unfold decs
  rw [List.range_succ, List.map_append]; rfl
theorem decs_get {M L n j : Nat} (h : j < n) : (decs M L n)[j]? = some (.int .u8 ((48 + M / 10 ^ (L - 1 - j) % 10 : Nat) : Int)) := by
  unfold decs
  rw [List.getElem?_map, List.getElem?_range h]; rfl

set_option maxHeartbeats 2000000 in
theorem rdecimal_any (A : Option Addr) (n c M : Nat) (w : World) (hM : IsNat w A n M) (hn : n ≤ 200) :
    Calls Try.prog 38 #[.slice A n c] w fun e w' => ∃ L, Nt.IsDec M L ∧ e = .returned (.string (strOfNums (Nt.decL M L))) ∧ Below w.heap.size w w' := by
  obtain ⟨i0, hi, hz0, hz1, hz2⟩ := info_parts info3
  obtain ⟨i5, ki, kz0, kz1, kz2⟩ := info_parts info5
  have hl1 := N8wlen_le hM
  go_enter Try.func38, Try.ntmps38
  go_wp2_with fail
  refine (digits_any A n c M _ hM (by omega)).mono ?_
  rintro e w1 ⟨A1, c1, rfl, hD1, hc1, hc2, hb1⟩
  have hMw := N8.lt_pw_wlen M
  generalize N8.wlen M = x at *
  have hx : x ≤ 800 := by omega
  have HX := Lib.hid hMw
  clear hM hMw
  go_wp2_with fail
  go_loopw [4, 5] (fun v i wr => ∃ k L : Nat, i = .int .i64 ((k : Int) - 1) ∧ k ≤ 8 * x ∧ Hid (Nt.IsDec (M / 2 ^ k) L) ∧ L ≤ 8 * x + 1 ∧ 1 ≤ L ∧
    wr.ownsRow w1.heap.size 3 1 v L (ints (Nt.d10 (M / 2 ^ k)) L) ∧ Below w1.heap.size w1 wr) (fun _ i _ => (intOf i + 1).toNat)
  case atStart =>
    have h0 : M / 2 ^ (8 * x) = 0 := by rw [← N8.pw_two]; exact N8.div_pw_of_lt HX.out
    refine ⟨8 * x, 1, congrArg (Value.int .i64) (by omega), Nat.le_refl _, show Nt.IsDec _ _ by rw [h0]; exact Nt.dec_zero, by omega, Nat.le_refl _, ?_, (Below.refl _ _).alloc (Nat.le_refl _) _⟩
    rw [h0]
    exact World.ownsRow_lit w1 #[.int .i64 0] 1 (Nat.le_refl _) (by unfold maxLen; omega) rfl
  case round =>
    obtain ⟨k, L, rfl, hk, HDEC, hL, hL1, hown, hb⟩ := hrel
    obtain ⟨g, cap, rfl, hg, hcap, hcapm⟩ := own_some hown (by omega)
    by_cases hlt : 0 < k
    · obtain ⟨i, rfl⟩ : ∃ i, k = i + 1 := ⟨k - 1, by omega⟩
      have hi' : ((i + 1 : Nat) : Int) - 1 = (i : Int) := by omega
      rw [hi']
      clear hi'
      obtain ⟨b, hbit⟩ : ∃ b, b = M / 2 ^ i % 2 := ⟨_, rfl⟩
      have hb1' : b ≤ 1 := by omega
      have hE := N8.shr_bit M i
      rw [← hbit] at hE
      have hEM : M / 2 ^ i < 10 ^ (8 * x) := Nat.lt_of_le_of_lt (Nat.div_le_self _ _) (Nat.lt_of_lt_of_le HX.out (Nt.pw8_le_ten x))
      have HBIT := Lib.hid (bit_any A1 x c1 M i wr (hD1.below hb) (by omega) (by omega) b hbit)
      rw [hE] at hEM
      generalize hEd : M / 2 ^ i = E at *
      generalize M / 2 ^ (i + 1) = D at *
      have HE := Lib.hid hE
      have HEd := Lib.hid hEd
      have HEM := Lib.hid hEM
      clear hE hEd hEM hbit
      go_wp2_with fail
      refine (HBIT.out).mono ?_
      rintro e w2 ⟨rfl, rfl⟩
      go_wp2_with fail
      go_loopw [6, 7] (fun cy kk wi => ∃ j : Nat, kk = .int .i64 j ∧ j ≤ L ∧ cy = .int .i64 ((Nt.dblC D b j : Nat) : Int) ∧
        wi.ownsRow w1.heap.size 3 1 (.slice (some ⟨g, 0, none⟩) L cap) L (ints (fun t => if t < j then Nt.d10 E t else Nt.d10 D t) L) ∧ Below w1.heap.size w1 wi) (fun _ kk _ => L - (intOf kk).toNat)
      case atStart => exact ⟨0, rfl, Nat.zero_le _, by rw [Nt.dblC_zero], by rw [ints_congr (g := Nt.d10 D) fun t _ => if_neg (by omega)]; exact hown, hb⟩
      case round =>
        clear hown hb
        obtain ⟨j, rfl, hj, rfl, hown, hb⟩ := hrel
        by_cases hlt2 : j < L
        · have s1 := hown.cellAt j (by omega)
          rw [ints_get, if_pos hlt2, if_neg (by omega)] at s1
          have s2 := hown.frozenAt j
          obtain ⟨q1, q2⟩ := Nt.dbl_step D b j
          have hc := Nt.dblC_le (D := D) (k := j) hb1'
          have hd := Nt.d10_lt D j
          rw [← HE.out] at q1
          have hset := ints_step (Nt.d10 D) (Nt.d10 E) L j
          have HSET := Lib.hid hset
          clear hset
          generalize Nt.d10 D j = d at *
          generalize Nt.dblC D b j = cy at *
          obtain ⟨s, hs⟩ : ∃ s, s = 2 * d + cy := ⟨_, rfl⟩
          rw [← hs] at q1 q2
          have e1 : (2 : Int) * (d : Int) + (cy : Int) = (s : Int) := by omega
          have hsb : s ≤ 20 := by omega
          have Q1 := Lib.hid q1
          have Q2 := Lib.hid q2
          clear q1 q2 hs
          go_wp2_with fail
          have eq1 : (s : Int) % 10 = ((Nt.d10 E j : Nat) : Int) := by have := Q1.out; omega
          have eq2 : (s : Int) / 10 = ((Nt.dblC D b (j + 1) : Nat) : Int) := by have := Q2.out; omega
          rw [eq1, eq2]
          have hst := (hown.stored j (.int .i64 ((Nt.d10 E j : Nat) : Int))).1
          rw [HSET.out] at hst
          exact ⟨⟨j + 1, by go_num, by omega, rfl, hst, hb.setCell hg _⟩, by simp [intOf] <;> omega⟩
        · have hj' : j = L := by omega
          subst hj'
          rw [ints_congr (g := Nt.d10 E) fun t ht => if_pos ht] at hown
          have hce := Nt.dblC_end (b := b) HDEC.out.2.1
          have hc := Nt.dblC_le (D := D) (k := j) hb1'
          have hBw := hb.size
          by_cases h0 : Nt.dblC D b j = 0
          · have hdec := Nt.isDec_same HDEC.out (hce.symm.trans h0)
            rw [← HE.out] at hdec
            have HD2 := Lib.hid hdec
            rw [h0]
            clear h0 hdec hce hc
            go_wp2_with fail
            go_roundw
            case rel => exact ⟨i, j, by go_num, by omega, by rw [HEd.out]; exact HD2.out, hL, hL1, by rw [HEd.out]; exact hown, hb⟩
            case measure => simp [intOf] <;> omega
          · have h1 : Nt.dblC D b j = 1 := by omega
            obtain ⟨hdec, hone⟩ := Nt.isDec_more HDEC.out hb1' (fun h => h0 (hce.trans h))
            rw [← HE.out] at hdec hone
            have hlen := Nt.dec_len hdec (by rw [HE.out]; exact HEM.out)
            have HD2 := Lib.hid hdec
            have HO := Lib.hid hone
            rw [h1]
            clear h0 h1 hdec hce hc hone
            go_wp2_with (at_builtin; go_must (refine wpList_append_own _ rfl (.tmp 47) (.tmp 49) _ rfl w1.heap.size 3 i0 _ 1 8 Try.underlying52 hi hz0 hz1 hz2 rfl (by omega) _ j _ rfl (hown.alloc _) ⟨wr.heap.size, 0, none⟩ 1 1 [.int .i64 1] rfl rfl (news_one _ _ _) (by intro u hu; rw [List.mem_singleton.1 hu]; rfl) (by unfold maxLen; omega) (by omega) (by simp; omega) ?_); intro v' w4 hown4 hg4 hnil4)
            have hb4 := (hb.alloc hb.size (.cells #[.int .i64 1] 3)).grown hg4 (by simp; omega) (fun x hx => (hown.lt x hx).1)
            clear hg4 hnil4
            go_roundw
            case rel => exact ⟨i, j + 1, by go_num, by omega, by rw [HEd.out]; exact HD2.out, hlen, by omega, by rw [HEd.out, ints_succ, HO.out]; exact hown4, hb4⟩
            case measure => simp [intOf] <;> omega
    · have hk' : k = 0 := by omega
      subst hk'
      have hneg : ¬ (0 : Int) ≤ ((0 : Nat) : Int) - 1 := by omega
      rw [Nat.pow_zero, Nat.div_one] at HDEC hown
      have hcells : ∀ j, j < L → wr.cell? ⟨g, j, none⟩ = some (.int .i64 (Nt.d10 M j)) := fun j hj => by rw [hown.cellAt j (by omega), ints_get, if_pos hj]
      have hgw : g < wr.heap.size := (hown.lt g rfl).2
      have HB := Lib.hid hb
      clear hown hi hz0 hz1 hz2 hb
      obtain ⟨wo, rfl⟩ : ∃ wo : World, wo = wr := ⟨_, rfl⟩
      go_wp2_with fail
      go_loopw [9, 10] (fun v i wi => ∃ j : Nat, i = .int .i64 ((L : Int) - 1 - j) ∧ j ≤ L ∧ wi.ownsRow wo.heap.size 5 1 v j (decs M L j) ∧ Below wo.heap.size wo wi) (fun _ i _ => (intOf i + 1).toNat)
      case atStart => exact ⟨0, congrArg (Value.int .i64) (by omega), Nat.zero_le _, World.ownsRow_nil _ _ _ _, Below.refl _ _⟩
      case round =>
        obtain ⟨j, rfl, hj, hown, hb⟩ := hrel
        have hBw := hb.size
        by_cases hlt2 : j < L
        · have s1 := (hb.cell (p := ⟨g, L - 1 - j, none⟩) hgw).trans (hcells (L - 1 - j) (by omega))
          have hd := Nt.d10_lt M (L - 1 - j)
          have hsucc := decs_succ M L j
          have hdd : M / 10 ^ (L - 1 - j) % 10 = Nt.d10 M (L - 1 - j) := rfl
          rw [hdd] at hsucc
          generalize Nt.d10 M (L - 1 - j) = d at *
          obtain ⟨z, hz⟩ : ∃ z : Nat, z = 48 + d := ⟨_, rfl⟩
          rw [← hz] at hsucc
          have HSU := Lib.hid hsucc
          have e1 : (48 : Int) + (d : Int) = (z : Int) := by omega
          have hzb : z < 256 := by omega
          have hge : (0 : Int) ≤ (L : Int) - 1 - j := by omega
          clear hsucc hdd hz
          go_wp2_with (at_builtin; go_must (refine wpList_append_own _ rfl (.tmp 58) (.tmp 65) _ rfl wo.heap.size 5 i5 _ 1 1 Try.underlying70 ki kz0 kz1 kz2 rfl (by omega) _ j _ rfl (hown.alloc _) ⟨wr.heap.size, 0, none⟩ 1 1 [.int .u8 (z : Int)] rfl rfl (news_one _ _ _) (by intro u hu; rw [List.mem_singleton.1 hu]; rfl) (by unfold maxLen; omega) (by omega) (by simp; omega) ?_); intro v' w4 hown4 hg4 hnil4)
          have hb4 := (hb.alloc hb.size (.cells #[.int .u8 (z : Int)] 5)).grown hg4 (by simp; omega) (fun x hx => (hown.lt x hx).1)
          clear hg4 hnil4
          go_roundw
          case rel => exact ⟨j + 1, congrArg (Value.int .i64) (by omega), by omega, by rw [HSU.out]; exact hown4, hb4⟩
          case measure => simp [intOf] <;> omega
        · have hj' : j = L := by omega
          subst hj'
          have hneg2 : ¬ (0 : Int) ≤ (j : Int) - 1 - j := by omega
          obtain ⟨g2, cap2, rfl, hg2, hcap2, hcapm2⟩ := own_some hown (by omega)
          have hcv := run_convert_bytes_arg (P := Try.prog) wr 70 5 Try.underlying70 Try.underlying5 g2 0 j cap2 (Nt.decL M j) (by simp [Nt.decL]) (fun i hi => by rw [Nat.zero_add, hown.cellAt i (by omega), decs_get hi, decL_get _ _ _ hi]) 9 Try.underlying9
          have hb9 := below_step (below_step hb1 HB.out) hb
          clear hown hcells
          go_wp2_with fail
          go_ret
          exact ⟨j, HDEC.out, rfl, hb9⟩
end Go.Proofs.Ytegbhenchmfngaa
