/- sum, Right, Value, Meets of the program. -/
import Derived.Test.YtdpannjnhhjicaaLReckon
namespace Go.Proofs.Ytdpannjnhhjicaa
open Go.RowKit

def sumS (vals : List Int) (v add : Int) : Int := wrap64 (valOf vals v + add)
theorem wide_val {vals : List Int} (h : WideI vals) (v : Int) : I64 (valOf vals v) := by
  unfold valOf
  split
  · rename_i h1
    rw [List.getD_eq_getElem?_getD, List.getElem?_eq_getElem (by omega)]
    exact h _ (List.getElem_mem _)
  · exact ⟨by omega, by omega⟩
set_option maxHeartbeats 1000000 in
theorem sum_any (A : Option Addr) (c : Nat) (vals : List Int) (v add : Int) (w : World) (hA : Holds w A (intsV vals)) (hv : I64 v) (ha : I64 add) (hl : vals.length ≤ 9223372036854775807) :
    Calls Try.prog 37 #[.slice A vals.length c, .int .i64 v, .int .i64 add] w fun e w' => e = .returned (.int .i64 (sumS vals v add)) ∧ w = w' := by
  by_cases h : withinB v 1 vals.length = true
  · have h1 := h
    simp only [withinB, Bool.and_eq_true, decide_eq_true_eq] at h1
    obtain ⟨k, hk, hkl⟩ : ∃ k : Nat, v = k + 1 ∧ k < vals.length := ⟨(v - 1).toNat, by omega, by omega⟩
    have e : sumS vals v add = wrap64 (vals[k] + add) := by
      unfold sumS valOf
      rw [if_pos ⟨by omega, by omega⟩, List.getD_eq_getElem?_getD, show (v - 1).toNat = k by omega, List.getElem?_eq_getElem hkl]
      rfl
    have HE := Lib.hid e
    obtain ⟨b, o, rfl, hb0, hc⟩ := hA.at_ (by rw [intsV_len]; omega)
    have s0 := hc k _ (intsV_get hkl)
    subst hk
    generalize vals[k] = x at *
    have e1 : IntKind.i64.wrap ((k : Int) + 1 - 1) = k := by rw [show (k : Int) + 1 - 1 = k by omega]; exact IntWalk.i64_in _ (by omega)
    clear e h1 hc hb0
    go_enter Try.func37, Try.ntmps37
    go_wp2_with (refine (within_any _ _ _ _).mono ?_; rintro e w' ⟨rfl, rfl⟩)
    go_ret
    exact ⟨ret_i64 HE.out.symm, rfl⟩
  · have h' : withinB v 1 vals.length = false := by simpa using h
    have e : sumS vals v add = add := by
      have h1 := h'
      simp only [withinB, Bool.and_eq_false_iff, decide_eq_false_iff_not] at h1
      unfold sumS valOf
      rw [if_neg (by omega), Int.zero_add]
      exact IntWalk.wrap64_in _ ⟨ha.1, ha.2⟩
    have HE := Lib.hid e
    clear e h
    go_enter Try.func37, Try.ntmps37
    go_wp2_with (refine (within_any _ _ _ _).mono ?_; rintro e w' ⟨rfl, rfl⟩)
    go_ret
    exact ⟨ret_i64 HE.out.symm, rfl⟩

/-- Is a level right, from a least variable on? -/
def rightFrom (v : Int) : Int → List Atom2 → Bool
  | _, [] => true
  | least, x :: r => withinB x.1 least v && withinB x.2 0 1000 && rightFrom v (x.1 + 1) r
def rightS (v : Int) (l : List Atom2) : Bool := withinB v 0 16 && withinB l.length 1 4 && rightFrom v 0 l
set_option maxHeartbeats 1000000 in
theorem right_any (A : Option Addr) (c : Nat) (l : List Atom2) (v : Int) (w : World) (hA : Holds w A (atomsV l)) (hl : l.length ≤ 9223372036854775807) :
    Calls Try.prog 17 #[.slice A l.length c, .int .i64 v] w fun e w' => e = .returned (.bool (rightS v l)) ∧ Below w.heap.size w w' := by
  by_cases hv : withinB v 0 16 = true
  · by_cases hn : withinB l.length 1 4 = true
    · have h1 := hv
      have h2 := hn
      simp only [withinB, Bool.and_eq_true, decide_eq_true_eq] at h1 h2
      have hn4 : l.length ≤ 4 := by omega
      have HR : Hid (rightS v l = rightFrom v 0 l) := show _ = _ by simp [rightS, hv, hn]
      go_enter Try.func17, Try.ntmps17
      go_wp2_with (refine (within_any _ _ _ _).mono ?_; rintro e w' ⟨rfl, rfl⟩)
      clear hv hn h2
      go_loopw [5, 19] (fun t i wr => ∃ (k : Nat) (least : Int), k ≤ l.length ∧ i = .int .i64 k ∧ t = .int .i64 least ∧ 0 ≤ least ∧ least ≤ 17 ∧ Hid (rightS v l = rightFrom v least (l.drop k)) ∧ Below w.heap.size w wr) (fun _ i _ => l.length - (intOf i).toNat)
      case atStart => exact ⟨0, 0, by omega, rfl, rfl, by omega, by omega, HR, Below.refl _ _⟩
      case round =>
        obtain ⟨k, least, hk, rfl, rfl, hle0, hle1, HK, hb⟩ := hrel
        by_cases hlt : k < l.length
        · obtain ⟨b, o, rfl, hb0, hc⟩ := (hA.below hb).at_ (by rw [atomsV_len]; omega)
          have s0 := hc (k * 2) _ (atomsV_get0 hlt)
          have s1 := hc (k * 2 + 1) _ (atomsV_get1 hlt)
          rw [← Nat.add_assoc] at s1
          have HD := Lib.hid (List.drop_eq_getElem_cons hlt)
          generalize l[k] = x at *
          obtain ⟨p, q⟩ := x
          simp only at s0 s1
          clear hc
          by_cases h3 : withinB p least v = true
          · have h5 := h3
            simp only [withinB, Bool.and_eq_true, decide_eq_true_eq] at h5
            by_cases h4 : withinB q 0 1000 = true
            · have HK' : Hid (rightS v l = rightFrom v (p + 1) (l.drop (k + 1))) := show _ = _ by rw [HK.out, HD.out]; simp [rightFrom, h3, h4]
              go_wp2_with (refine (within_any _ _ _ _).mono ?_; rintro e w' ⟨rfl, rfl⟩)
              go_roundw
              case rel => exact ⟨k + 1, p + 1, by omega, by go_num, by go_num, by omega, by omega, HK'.out, hb.alloc hb.size _⟩
              case measure => simp [intOf]; omega
            · have h4' : withinB q 0 1000 = false := by simpa using h4
              have HK' : Hid (rightS v l = false) := show _ = _ by rw [HK.out, HD.out]; simp [rightFrom, h4']
              go_wp2_with (refine (within_any _ _ _ _).mono ?_; rintro e w' ⟨rfl, rfl⟩)
              go_ret
              exact ⟨ret_bool HK'.out.symm, hb.alloc hb.size _⟩
          · have h3' : withinB p least v = false := by simpa using h3
            have HK' : Hid (rightS v l = false) := show _ = _ by rw [HK.out, HD.out]; simp [rightFrom, h3']
            go_wp2_with (refine (within_any _ _ _ _).mono ?_; rintro e w' ⟨rfl, rfl⟩)
            go_ret
            exact ⟨ret_bool HK'.out.symm, hb.alloc hb.size _⟩
        · have HK' : Hid (rightS v l = true) := show _ = _ by rw [HK.out, List.drop_of_length_le (by omega)]; rfl
          go_wp2_with fail
          go_ret
          exact ⟨ret_bool HK'.out.symm, hb⟩
    · have hn' : withinB l.length 1 4 = false := by simpa using hn
      have HR : Hid (rightS v l = false) := show _ = _ by simp [rightS, hn']
      go_enter Try.func17, Try.ntmps17
      go_wp2_with (refine (within_any _ _ _ _).mono ?_; rintro e w' ⟨rfl, rfl⟩)
      go_ret
      exact ⟨ret_bool HR.out.symm, Below.refl _ _⟩
  · have hv' : withinB v 0 16 = false := by simpa using hv
    have HR : Hid (rightS v l = false) := show _ = _ by simp [rightS, hv']
    go_enter Try.func17, Try.ntmps17
    go_wp2_with (refine (within_any _ _ _ _).mono ?_; rintro e w' ⟨rfl, rfl⟩)
    go_ret
    exact ⟨ret_bool HR.out.symm, Below.refl _ _⟩
end Go.Proofs.Ytdpannjnhhjicaa
