/- Value, Meets of the program. -/
import Derived.Test.YtdpannjnhhjicaaLValue
namespace Go.Proofs.Ytdpannjnhhjicaa
open Go.RowKit

def meetsO (vals : List Int) (o : Ord3) : Bool := decide (sumS vals o.1 o.2.1 ≤ sumS vals o.2.2 0)
def meetsS (vals : List Int) (E : List Ord3) : Bool := vals.all (fun x => decide (0 ≤ x)) && E.all (meetsO vals)
theorem all_step {α : Type} {p : α → Bool} {l : List α} {k : Nat} (hk : k < l.length) (h : (l.take k).all p = true) (hp : p l[k] = true) : (l.take (k + 1)).all p = true := by
  rw [List.take_succ_eq_append_getElem hk, List.all_append, h]
  simp [hp]
theorem all_not {α : Type} {p : α → Bool} {l : List α} {k : Nat} (hk : k < l.length) (hp : p l[k] = false) : l.all p = false := by
  cases h : l.all p
  · rfl
  · rw [List.all_eq_true] at h
    rw [h _ (List.getElem_mem hk)] at hp
    cases hp
theorem sum_same (A : Option Addr) (c n : Nat) (vals : List Int) (v add : Int) (w : World) (hn : vals.length = n) (hA : Holds w A (intsV vals)) (hv : I64 v) (ha : I64 add) (hl : n ≤ 9223372036854775807) :
    Calls Try.prog 37 #[.slice A n c, .int .i64 v, .int .i64 add] w fun e w' => e = .returned (.int .i64 (sumS vals v add)) ∧ w' = w := by
  subst hn
  exact (sum_any A c vals v add w hA hv ha hl).mono fun _ _ h => ⟨h.1, h.2.symm⟩

set_option maxHeartbeats 2000000 in
theorem meets_any (A B : Option Addr) (c d : Nat) (vals : List Int) (E : List Ord3) (w : World) (hA : Holds w A (intsV vals)) (hB : Holds w B (ordsV E)) (hE : WideO E) (hl : vals.length ≤ 9223372036854775807) (hm : E.length ≤ 9223372036854775807) :
    Calls Try.prog 28 #[.slice A vals.length c, .slice B E.length d] w fun e w' => e = .returned (.bool (meetsS vals E)) ∧ Below w.heap.size w w' := by
  have HE := Lib.hid hE
  clear hE
  obtain ⟨n, hn⟩ : ∃ n, vals.length = n := ⟨_, rfl⟩
  rw [hn] at hl ⊢
  have HN := Lib.hid hn
  clear hn
  go_enter Try.func28, Try.ntmps28
  go_wp2_with fail
  go_loopw [11] (fun i wr => ∃ k : Nat, k ≤ n ∧ i = .int .i64 k ∧ Hid ((vals.take k).all (fun x => decide (0 ≤ x)) = true) ∧ w = wr) (fun i _ => n - (intOf i).toNat)
  case atStart => exact ⟨0, by omega, rfl, show _ = _ by simp, rfl⟩
  case round =>
    obtain ⟨k, hk, rfl, HK, rfl⟩ := hrel
    by_cases hlt : k < n
    · have hkl : k < vals.length := by rw [HN.out]; exact hlt
      obtain ⟨b, o, rfl, hb0, hc⟩ := hA.at_ (by rw [intsV_len]; omega)
      have s0 := hc k _ (intsV_get hkl)
      have HS := Lib.hid fun h => all_step (p := fun x => decide (0 ≤ x)) hkl HK.out h
      have HX := Lib.hid fun h => all_not (p := fun x => decide (0 ≤ x)) hkl h
      generalize vals[k] = x at *
      clear hc hkl
      by_cases h1 : x < 0
      · have HM : Hid (meetsS vals E = false) := show _ = _ by unfold meetsS; rw [HX.out (by simpa using h1)]; rfl
        go_wp2_with fail
        go_ret
        exact ⟨ret_bool HM.out.symm, Below.refl _ _⟩
      · have HM := Lib.hid (HS.out (by simpa using h1))
        go_wp2_with fail
        go_roundw
        case rel => exact ⟨k + 1, by omega, by go_num, HM.out, trivial⟩
        case measure => simp [intOf]; omega
    · have HV : Hid (meetsS vals E = E.all (meetsO vals)) := show _ = _ by
        have h := HK.out
        rw [List.take_of_length_le (by rw [HN.out]; omega)] at h
        unfold meetsS; rw [h]; rfl
      go_wp2_with fail
      clear hlt hk HK
      go_loopw [20] (fun i wr => ∃ k : Nat, k ≤ E.length ∧ i = .int .i64 k ∧ Hid ((E.take k).all (meetsO vals) = true) ∧ Below w.heap.size w wr) (fun i _ => E.length - (intOf i).toNat)
      case atStart => exact ⟨0, by omega, rfl, show _ = _ by simp, Below.refl _ _⟩
      case round =>
        obtain ⟨k, hk, rfl, HK, hb⟩ := hrel
        by_cases hlt : k < E.length
        · have hA' := Lib.hid ((hA.below hb).alloc (.cells #[.int .i64 E[k].1, .int .i64 E[k].2.1, .int .i64 E[k].2.2] 53))
          obtain ⟨b, o, rfl, hb0, hc⟩ := (hB.below hb).at_ (by rw [ordsV_len]; omega)
          have s0 := hc (k * 3) _ (ordsV_get0 hlt)
          have s1 := hc (k * 3 + 1) _ (ordsV_get1 hlt)
          have s2 := hc (k * 3 + 2) _ (ordsV_get2 hlt)
          rw [← Nat.add_assoc] at s1 s2
          have HW := Lib.hid (HE.out _ (List.getElem_mem hlt))
          have HS := Lib.hid fun h => all_step hlt HK.out h
          have HX := Lib.hid fun h => all_not (p := meetsO vals) hlt h
          generalize E[k] = x at *
          obtain ⟨lo, ad, hi⟩ := x
          simp only at s0 s1 s2
          have HZ : Hid (I64 0) := show I64 0 from ⟨by omega, by omega⟩
          clear hc
          by_cases h1 : sumS vals hi 0 < sumS vals lo ad
          · have HM : Hid (E.all (meetsO vals) = false) := HX.out (by simpa [meetsO] using h1)
            go_wp2_with fail
            go_quiet ((go_at_call 37; refine Calls.quiet_of_same (sum_same _ _ _ vals _ _ _ HN.out (hA'.out.drewN _) (by first | exact HW.out.1 | exact HW.out.2.2) (by first | exact HW.out.2.1 | exact HZ.out) hl)))
            go_wp2_with fail
            go_ret
            exact ⟨ret_bool (by rw [HV.out, HM.out]), below_drewN (hb.alloc hb.size _) _⟩
          · have HM := Lib.hid (HS.out (by simpa [meetsO] using h1))
            go_wp2_with fail
            go_quiet ((go_at_call 37; refine Calls.quiet_of_same (sum_same _ _ _ vals _ _ _ HN.out (hA'.out.drewN _) (by first | exact HW.out.1 | exact HW.out.2.2) (by first | exact HW.out.2.1 | exact HZ.out) hl)))
            go_wp2_with fail
            go_roundw
            case rel => exact ⟨k + 1, by omega, by go_num, HM.out, below_drewN (hb.alloc hb.size _) _⟩
            case measure => simp [intOf]; omega
        · have HM : Hid (E.all (meetsO vals) = true) := show _ = _ by
            have h := HK.out
            rwa [List.take_of_length_le (by omega)] at h
          go_wp2_with fail
          go_ret
          exact ⟨ret_bool (by rw [HV.out, HM.out]), hb⟩

/-- The greatest of atoms' values, from one on. -/
def mostS (vals : List Int) (m : Int) (l : List Atom2) : Int := l.foldl (fun m x => max m (sumS vals x.1 x.2)) m
def valueS (vals : List Int) : List Atom2 → Int
  | [] => 0
  | x :: r => mostS vals (sumS vals x.1 x.2) r
theorem mostS_snoc {vals : List Int} {m : Int} {l : List Atom2} {k : Nat} (h : k < l.length) : mostS vals m (l.take (k + 1)) = max (mostS vals m (l.take k)) (sumS vals l[k].1 l[k].2) := by
  unfold mostS
  rw [List.take_succ_eq_append_getElem h, List.foldl_append]; rfl
theorem sumS_wide (vals : List Int) (v add : Int) : I64 (sumS vals v add) := by
  unfold sumS I64 wrap64
  omega
theorem mostS_wide (vals : List Int) (l : List Atom2) : ∀ m, I64 m → I64 (mostS vals m l) := by
  induction l with
  | nil => intro m h; exact h
  | cons x r ih =>
    intro m h
    have h1 := sumS_wide vals x.1 x.2
    exact ih _ (by show I64 (max m (sumS vals x.1 x.2)); unfold I64 at *; omega)

theorem value_none (A B : Option Addr) (c d : Nat) (vals : List Int) (w : World) : Calls Try.prog 20 #[.slice A 0 c, .slice B vals.length d] w fun e w' => e = .returned (.int .i64 0) ∧ Below w.heap.size w w' := by
  go_enter Try.func20, Try.ntmps20
  go_wp2_with fail
  go_ret
  exact ⟨rfl, Below.refl _ _⟩
set_option maxHeartbeats 2000000 in
theorem value_some (A B : Option Addr) (c d n m : Nat) (vals : List Int) (x : Atom2) (r : List Atom2) (w : World) (hs : Slice A (m + 1) c) (hA : Holds w A (atomsV (x :: r))) (hB : Holds w B (intsV vals)) (hW : WideA (x :: r)) (hn : vals.length = n) (hm : r.length = m) (hl : n ≤ 9223372036854775807) :
    Calls Try.prog 20 #[.slice A (m + 1) c, .slice B n d] w fun e w' => e = .returned (.int .i64 (valueS vals (x :: r))) ∧ Below w.heap.size w w' := by
  have HN := Lib.hid hn
  have HM := Lib.hid hm
  have hW0 := Lib.hid (hW x (by simp))
  have hWr : Hid (WideA r) := show WideA r from fun y hy => hW y (by simp [hy])
  obtain ⟨b, o, rfl, hb0, hc⟩ := hA.at_ (by rw [atomsV_len]; simp)
  have s0 := hc 0 _ (atomsV_get0 (j := 0) (by simp))
  have s1 := hc 1 _ (atomsV_get1 (j := 0) (by simp))
  have hr : Holds w (some ⟨b, o + 2, none⟩) (atomsV r) := by
    intro _
    refine ⟨b, o + 2, rfl, fun j u hu => ?_⟩
    have := hc (j + 2) u (by rw [atomsV_cons, List.getElem?_append_right (by simp [atomV])]; simpa [atomV] using hu)
    rwa [show o + 2 + j = o + (j + 2) by omega]
  simp only [Nat.add_zero, List.getElem_cons_zero] at s0 s1
  have hcc := hs.1
  have hcl := hs.2.1
  have HB := Lib.hid hB
  clear hn hm hW hc hA hs
  have HS := Lib.hid (sumS_wide vals x.1 x.2)
  by_cases h1 : c = 1
  · obtain rfl : m = 0 := by omega
    have HV : Hid (valueS vals (x :: r) = sumS vals x.1 x.2) := show _ = _ by
      obtain rfl : r = [] := List.eq_nil_of_length_eq_zero HM.out
      rfl
    clear hr hWr HM
    subst h1
    go_enter Try.func20, Try.ntmps20
    go_wp2_with fail
    go_quiet ((go_at_call 37; refine Calls.quiet_of_same (sum_same _ _ _ vals _ _ _ HN.out (HB.out.drewN _) hW0.out.1 hW0.out.2 hl)))
    go_wp2_with fail
    refine wp_loop_rounds 1 ?_
    rw [rounds_succ]
    go_wp2_with fail
    go_ret
    exact ⟨ret_i64 HV.out.symm, below_drewN (Below.refl _ _) _⟩
  · have HR : Hid (Holds w (some ⟨b, o + 2, none⟩) (atomsV r)) := hr
    clear hr
    go_enter Try.func20, Try.ntmps20
    go_wp2_with fail
    go_quiet ((go_at_call 37; refine Calls.quiet_of_same (sum_same _ _ _ vals _ _ _ HN.out (HB.out.drewN _) hW0.out.1 hW0.out.2 hl)))
    go_wp2_with fail
    go_loopw [5, 24] (fun t i wr => ∃ (k : Nat) (y : Int), k ≤ m ∧ i = .int .i64 k ∧ t = .int .i64 y ∧ Hid (y = mostS vals (sumS vals x.1 x.2) (r.take k)) ∧ Below w.heap.size w wr) (fun _ i _ => m - (intOf i).toNat)
    case atStart => exact ⟨0, _, by omega, rfl, rfl, show _ = _ by simp [mostS], below_drewN (Below.refl _ _) _⟩
    case round =>
      obtain ⟨k, y, hk, rfl, rfl, HY, hb⟩ := hrel
      by_cases hlt : k < m
      · have hkr : k < r.length := by rw [HM.out]; exact hlt
        have hB' := Lib.hid ((HB.out.below hb).alloc (.cells #[.int .i64 r[k].1, .int .i64 r[k].2] 57))
        obtain ⟨b', o', e', hb1, hc⟩ := (HR.out.below hb).at_ (by rw [atomsV_len]; omega)
        cases e'
        have t0 := hc (k * 2) _ (atomsV_get0 hkr)
        have t1 := hc (k * 2 + 1) _ (atomsV_get1 hkr)
        rw [← Nat.add_assoc] at t1
        have HW := Lib.hid (hWr.out _ (List.getElem_mem hkr))
        have HY' := Lib.hid ((mostS_snoc (m := sumS vals x.1 x.2) hkr).trans (by rw [← HY.out]))
        have HI : Hid (I64 y) := show I64 y by rw [HY.out]; exact mostS_wide _ _ _ HS.out
        generalize r[k] = z at *
        obtain ⟨p, q⟩ := z
        simp only at t0 t1
        clear hc hkr
        go_wp2_with (go_at_call 37; refine (sum_same _ _ _ vals _ _ _ HN.out hB'.out HW.out.1 HW.out.2 hl).mono ?_; rintro e w' ⟨rfl, rfl⟩)
        · exact ⟨⟨_, _, .int .i64 ((k : Int) + 1), ⟨k + 1, by omega, by go_num, sumS vals p q, rfl, show _ = _ by rw [HY'.out]; omega, hb.alloc hb.size _⟩, rfl, rfl, rfl⟩, by simp [intOf]; omega⟩
        · exact ⟨⟨_, _, .int .i64 ((k : Int) + 1), ⟨k + 1, by omega, by go_num, y, rfl, show _ = _ by rw [HY'.out]; omega, hb.alloc hb.size _⟩, rfl, rfl, rfl⟩, by simp [intOf]; omega⟩
      · have HV : Hid (valueS vals (x :: r) = y) := show _ = _ by
          rw [HY.out, List.take_of_length_le (by have := HM.out; omega)]; rfl
        go_wp2_with fail
        go_ret
        exact ⟨ret_i64 HV.out.symm, hb⟩
theorem value_any (A B : Option Addr) (c d : Nat) (vals : List Int) (l : List Atom2) (w : World) (hs : Slice A l.length c) (hA : Holds w A (atomsV l)) (hB : Holds w B (intsV vals)) (hW : WideA l) (hl : vals.length ≤ 9223372036854775807) :
    Calls Try.prog 20 #[.slice A l.length c, .slice B vals.length d] w fun e w' => e = .returned (.int .i64 (valueS vals l)) ∧ Below w.heap.size w w' := by
  cases l with
  | nil => exact value_none A B c d vals w
  | cons x r => exact value_some A B c d _ _ vals x r w hs hA hB hW rfl rfl hl
end Go.Proofs.Ytdpannjnhhjicaa
