/- The document's Of, Value, Meets, Same, SameInts. -/
import Derived.Test.YtdpannjnhhjicaaLRef1
namespace Go.Proofs.Ytdpannjnhhjicaa
open Go.RowKit

set_option maxHeartbeats 1000000 in
theorem of_any (A : Option Addr) (n c : Nat) (vals : List Int) (v : Int) (w : World) (hn : vals.length = n) (hA : Holds w A (intsV vals)) (hl : n ≤ 9223372036854775807) :
    Calls Try.prog 33 #[.slice A n c, .int .i64 v] w fun e w' => e = .returned (.int .i64 (valOf vals v)) ∧ w' = w := by
  by_cases h1 : 0 < v
  · by_cases h2 : v ≤ (n : Int)
    · obtain ⟨k, rfl, hk⟩ : ∃ k : Nat, v = k + 1 ∧ k < n := ⟨(v - 1).toNat, by omega, by omega⟩
      have hkl : k < vals.length := by rw [hn]; exact hk
      have e : valOf vals ((k : Int) + 1) = vals[k] := by
        unfold valOf
        rw [if_pos ⟨by omega, by omega⟩, List.getD_eq_getElem?_getD, show ((k : Int) + 1 - 1).toNat = k by omega, List.getElem?_eq_getElem hkl]
        rfl
      have HE := Lib.hid e
      obtain ⟨b, o, rfl, hb0, hc⟩ := hA.at_ (by rw [intsV_len]; omega)
      have s0 := hc k _ (intsV_get hkl)
      generalize vals[k] = x at *
      have e1 : IntKind.i64.wrap ((k : Int) + 1 - 1) = k := by rw [show (k : Int) + 1 - 1 = k by omega]; exact IntWalk.i64_in _ (by omega)
      clear e hc hn hkl
      go_enter Try.func33, Try.ntmps33
      go_wp2_with fail
      go_ret
      exact ⟨ret_i64 HE.out.symm, rfl⟩
    · have HE : Hid (valOf vals v = 0) := show _ = _ by unfold valOf; rw [if_neg (by omega)]
      have h3 : (n : Int) < v := by omega
      have h4 : decide (v ≤ (n : Int)) = false := by simpa using h2
      clear hn
      go_enter Try.func33, Try.ntmps33
      go_wp2_with fail
      go_ret
      exact ⟨ret_i64 HE.out.symm, rfl⟩
  · have HE : Hid (valOf vals v = 0) := show _ = _ by unfold valOf; rw [if_neg (by omega)]
    have h4 : decide (0 < v) = false := by simpa using h1
    clear hn
    go_enter Try.func33, Try.ntmps33
    go_wp2_with fail
    go_ret
    exact ⟨ret_i64 HE.out.symm, rfl⟩
theorem sumS_zero {vals : List Int} (h : WideI vals) (v : Int) : sumS vals v 0 = valOf vals v := by
  unfold sumS
  rw [Int.add_zero]
  have := wide_val h v
  exact IntWalk.wrap64_in _ ⟨this.1, this.2⟩
theorem wrap_sum (vals : List Int) (v a : Int) : IntKind.i64.wrap (valOf vals v + a) = sumS vals v a := by
  unfold sumS wrap64
  exact IntKind.wrap_i64 _

theorem rvalue_none (A B : Option Addr) (c n d : Nat) (w : World) : Calls Try.prog 21 #[.slice A 0 c, .slice B n d] w fun e w' => e = .returned (.int .i64 0) ∧ Below w.heap.size w w' := by
  go_enter Try.func21, Try.ntmps21
  go_wp2_with fail
  go_ret
  exact ⟨rfl, Below.refl _ _⟩
/-- The greatest of the first atoms' values, the very first one's among them. -/
def mostK (vals : List Int) (m : Int) (l : List Atom2) (k : Nat) : Int := mostS vals m ((l.take k).drop 1)
theorem mostK_step {vals : List Int} {m : Int} {l : List Atom2} {k : Nat} (h0 : 0 < k) (h : k < l.length) : mostK vals m l (k + 1) = max (mostK vals m l k) (sumS vals l[k].1 l[k].2) := by
  unfold mostK mostS
  rw [List.take_succ_eq_append_getElem h, List.drop_append_of_le_length (by rw [List.length_take]; omega), List.foldl_append]; rfl
set_option maxHeartbeats 2000000 in
theorem rvalue_some (A B : Option Addr) (c d n m : Nat) (vals : List Int) (x : Atom2) (r : List Atom2) (w : World) (hA : Holds w A (atomsV (x :: r))) (hB : Holds w B (intsV vals)) (hn : vals.length = n) (hm : r.length = m) (hl : n ≤ 9223372036854775807) (hl2 : m + 1 ≤ 9223372036854775807) :
    Calls Try.prog 21 #[.slice A (m + 1) c, .slice B n d] w fun e w' => e = .returned (.int .i64 (valueS vals (x :: r))) ∧ Below w.heap.size w w' := by
  have HN := Lib.hid hn
  have HM : Hid ((x :: r).length = m + 1) := show _ = _ by simp [hm]
  have hV : valueS vals (x :: r) = mostK vals (sumS vals x.1 x.2) (x :: r) (m + 1) := by
    unfold mostK
    rw [List.take_of_length_le (by simp [hm])]
    rfl
  have HV := Lib.hid hV
  obtain ⟨l, hxl⟩ : ∃ l, l = x :: r := ⟨_, rfl⟩
  have hx0 : l[0]? = some x := by rw [hxl]; rfl
  rw [← hxl] at hA HM HV ⊢
  clear hV hxl hm hn
  obtain ⟨b, o, e', hb0, hc⟩ := hA.at_ (by rw [atomsV_len, HM.out]; omega)
  have h0l : 0 < l.length := by rw [HM.out]; omega
  have hx : l[0] = x := by
    rw [List.getElem?_eq_getElem h0l] at hx0
    exact Option.some.inj hx0
  have s0 := hc 0 _ (atomsV_get0 (j := 0) h0l)
  have s1 := hc 1 _ (atomsV_get1 (j := 0) h0l)
  rw [hx] at s0 s1
  simp only [Nat.add_zero] at s0
  obtain ⟨x1, x2⟩ := x
  simp only at s0 s1
  have e1 := wrap_sum vals x1 x2
  have HB := Lib.hid hB
  have HA := Lib.hid hA
  have t0 : ((m : Int) + 1 == 0) = false := by simp; omega
  subst e'
  clear hx hx0 hc hA h0l hB
  go_enter Try.func21, Try.ntmps21
  go_wp2_with fail
  go_quiet ((go_at_call 33; refine Calls.quiet_of_same (of_any _ _ _ vals _ _ HN.out (HB.out.drewN _) hl)))
  go_wp2_with fail
  clear e1 s0 s1 t0
  go_loopw [5, 6] (fun t i wr => ∃ (k : Nat) (y : Int), 0 < k ∧ k ≤ m + 1 ∧ i = .int .i64 k ∧ t = .int .i64 y ∧ Hid (y = mostK vals (sumS vals x1 x2) l k) ∧ Below w.heap.size w wr) (fun _ i _ => m + 1 - (intOf i).toNat)
  case atStart => exact ⟨1, _, by omega, by omega, rfl, rfl, show _ = _ by simp [mostK, mostS], below_drewN (Below.refl _ _) _⟩
  case round =>
    obtain ⟨k, y, hk0, hk, rfl, rfl, HY, hb⟩ := hrel
    by_cases hlt : k < m + 1
    · have hkr : k < l.length := by rw [HM.out]; exact hlt
      have HB' := Lib.hid (HB.out.below hb)
      obtain ⟨b', o', e', hb1, hc⟩ := (HA.out.below hb).at_ (by rw [atomsV_len]; omega)
      cases e'
      have t0 := hc (k * 2) _ (atomsV_get0 hkr)
      have t1 := hc (k * 2 + 1) _ (atomsV_get1 hkr)
      rw [← Nat.add_assoc] at t1
      have HY' := Lib.hid ((mostK_step (vals := vals) (m := sumS vals x1 x2) hk0 hkr).trans (by rw [← HY.out]))
      generalize l[k] = z at *
      obtain ⟨p, q⟩ := z
      simp only at t0 t1
      have e1 := wrap_sum vals p q
      clear hc hkr
      by_cases hgt : y < sumS vals p q
      · go_wp2_with fail
        go_quiet ((go_at_call 33; refine Calls.quiet_of_same (of_any _ _ _ vals _ _ HN.out (HB'.out.drewN _) hl)))
        go_wp2_with fail
        go_roundw
        case rel => exact ⟨k + 1, sumS vals p q, by omega, by omega, by go_num, rfl, show _ = _ by rw [HY'.out]; omega, below_drewN hb _⟩
        case measure => simp [intOf]; omega
      · go_wp2_with fail
        go_quiet ((go_at_call 33; refine Calls.quiet_of_same (of_any _ _ _ vals _ _ HN.out (HB'.out.drewN _) hl)))
        go_wp2_with fail
        go_roundw
        case rel => exact ⟨k + 1, y, by omega, by omega, by go_num, rfl, show _ = _ by rw [HY'.out]; omega, below_drewN hb _⟩
        case measure => simp [intOf]; omega
    · have HV2 : Hid (valueS vals l = y) := show _ = _ by rw [HV.out, HY.out, show k = m + 1 by omega]
      go_wp2_with fail
      go_ret
      exact ⟨ret_i64 HV2.out.symm, hb⟩
theorem rvalue_any (A B : Option Addr) (n c m d : Nat) (vals : List Int) (l : List Atom2) (w : World) (hA : LevelAt w A n c l) (hB : Holds w B (intsV vals)) (hm : vals.length = m) (hl : m ≤ 9223372036854775807) :
    Calls Try.prog 21 #[.slice A n c, .slice B m d] w fun e w' => e = .returned (.int .i64 (valueS vals l)) ∧ Below w.heap.size w w' := by
  obtain ⟨h1, h2, h3⟩ := hA
  have := h2.1
  have := h2.2.1
  cases l with
  | nil => simp at h1; subst h1; exact rvalue_none A B c m d w
  | cons x r => subst h1; exact rvalue_some A B c d _ _ vals x r w h3 hB hm rfl hl (by simp at *; omega)
end Go.Proofs.Ytdpannjnhhjicaa
