/- fault, reckon. -/
import Derived.Test.YtdpannjnhhjicaaLThrough
namespace Go.Proofs.Ytdpannjnhhjicaa
open Go.RowKit

theorem ret_i64 {a b : Int} (h : a = b) : Ending.returned (.int .i64 a) = .returned (.int .i64 b) := by rw [h]
def okO (v : Int) (o : Ord3) : Bool := withinB o.1 0 v && withinB o.2.2 0 v && withinB o.2.1 (-1000) 1000
def faultS (v : Int) (E : List Ord3) : Int := if withinB v 0 16 = true then (if 64 < E.length then 5 else if E.all (okO v) = true then 0 else 1) else 1
def AllOk (v : Int) (E : List Ord3) (k : Nat) : Prop := (E.take k).all (okO v) = true
theorem allOk_step {v : Int} {E : List Ord3} {k : Nat} (h : AllOk v E k) (hk : k < E.length) (ho : okO v E[k] = true) : AllOk v E (k + 1) := by
  unfold AllOk at *
  rw [List.take_succ_eq_append_getElem hk, List.all_append, h]
  simp [ho]
theorem notAll {v : Int} {E : List Ord3} {k : Nat} (hk : k < E.length) (ho : okO v E[k] = false) : ¬ E.all (okO v) = true := by
  intro h
  rw [List.all_eq_true] at h
  rw [h _ (List.getElem_mem hk)] at ho
  cases ho
theorem faultS_ok {v : Int} {E : List Ord3} (h : faultS v E = 0) : ∃ n : Nat, v = n ∧ n ≤ 16 ∧ E.length ≤ 64 ∧ RightE n E := by
  unfold faultS at h
  split at h
  · rename_i h1
    simp only [withinB, Bool.and_eq_true, decide_eq_true_eq] at h1
    split at h
    · omega
    · split at h
      · rename_i h2 h3
        refine ⟨v.toNat, by omega, by omega, by omega, fun o ho => ?_⟩
        rw [List.all_eq_true] at h3
        have := h3 o ho
        simp only [okO, withinB, Bool.and_eq_true, decide_eq_true_eq] at this
        unfold RightO
        omega
      · omega
  · omega

/-- What fault answers. -/
def FaultPost (v : Int) (E : List Ord3) (w : World) (e : Ending) (w' : World) : Prop := e = .returned (.int .i64 (faultS v E)) ∧ Below w.heap.size w w'
set_option maxHeartbeats 1000000 in
theorem fault_any (v : Int) (A : Option Addr) (c : Nat) (E : List Ord3) (w : World) (hA : Holds w A (ordsV E)) (hm : E.length ≤ 9223372036854775807) :
    Calls Try.prog 45 #[.int .i64 v, .slice A E.length c] w (FaultPost v E w) := by
  by_cases hv : withinB v 0 16 = true
  · by_cases hl : 64 < E.length
    · have t1 : (64 : Int) < (E.length : Int) := by omega
      have HV : Hid (faultS v E = 5) := show _ = _ by simp [faultS, hv, hl]
      go_enter Try.func45, Try.ntmps45
      go_wp2_with (refine (within_any _ _ _ _).mono ?_; rintro e w' ⟨rfl, rfl⟩)
      go_ret
      exact ⟨ret_i64 HV.out.symm, Below.refl _ _⟩
    · have t1 : ¬ (64 : Int) < (E.length : Int) := by omega
      have HV : Hid (faultS v E = if E.all (okO v) = true then 0 else 1) := show _ = _ by simp [faultS, hv, hl]
      go_enter Try.func45, Try.ntmps45
      go_wp2_with (refine (within_any _ _ _ _).mono ?_; rintro e w' ⟨rfl, rfl⟩)
      clear hv t1
      go_loopw [17] (fun i wr => ∃ k : Nat, k ≤ E.length ∧ i = .int .i64 k ∧ Hid (AllOk v E k) ∧ Below w.heap.size w wr) (fun i _ => E.length - (intOf i).toNat)
      case atStart => exact ⟨0, by omega, rfl, (by simp [AllOk] : AllOk v E 0), Below.refl _ _⟩
      case round =>
        obtain ⟨k, hk, rfl, HO, hb⟩ := hrel
        by_cases hlt : k < E.length
        · obtain ⟨b, o, rfl, hb0, hc⟩ := (hA.below hb).at_ (by rw [ordsV_len]; omega)
          have s0 := hc (k * 3) _ (ordsV_get0 hlt)
          have s1 := hc (k * 3 + 1) _ (ordsV_get1 hlt)
          have s2 := hc (k * 3 + 2) _ (ordsV_get2 hlt)
          rw [← Nat.add_assoc] at s1 s2
          have HS := Lib.hid fun h => allOk_step HO.out hlt h
          have HX := Lib.hid fun h => notAll (v := v) hlt h
          generalize E[k] = x at *
          obtain ⟨lo, ad, hi⟩ := x
          simp only at s0 s1 s2
          clear hc
          by_cases h1 : withinB lo 0 v = true
          · by_cases h2 : withinB hi 0 v = true
            · by_cases h3 : withinB ad (-1000) 1000 = true
              · have HS' := Lib.hid (HS.out (by simp [okO, h1, h2, h3]))
                go_wp2_with (refine (within_any _ _ _ _).mono ?_; rintro e w' ⟨rfl, rfl⟩)
                go_roundw
                case rel => exact ⟨k + 1, by omega, by go_num, HS'.out, hb.alloc hb.size _⟩
                case measure => simp [intOf]; omega
              · have h3' : withinB ad (-1000) 1000 = false := by simpa using h3
                have HX' := Lib.hid (HX.out (by simp [okO, h3']))
                go_wp2_with (refine (within_any _ _ _ _).mono ?_; rintro e w' ⟨rfl, rfl⟩)
                go_ret
                exact ⟨ret_i64 (by rw [HV.out, if_neg HX'.out]), hb.alloc hb.size _⟩
            · have h2' : withinB hi 0 v = false := by simpa using h2
              have HX' := Lib.hid (HX.out (by simp [okO, h2']))
              go_wp2_with (refine (within_any _ _ _ _).mono ?_; rintro e w' ⟨rfl, rfl⟩)
              go_ret
              exact ⟨ret_i64 (by rw [HV.out, if_neg HX'.out]), hb.alloc hb.size _⟩
          · have h1' : withinB lo 0 v = false := by simpa using h1
            have HX' := Lib.hid (HX.out (by simp [okO, h1']))
            go_wp2_with (refine (within_any _ _ _ _).mono ?_; rintro e w' ⟨rfl, rfl⟩)
            go_ret
            exact ⟨ret_i64 (by rw [HV.out, if_neg HX'.out]), hb.alloc hb.size _⟩
        · have hk' : k = E.length := by omega
          have h4 : E.all (okO v) = true := by
            have := HO.out
            unfold AllOk at this
            rwa [hk', List.take_length] at this
          have HX' := Lib.hid h4
          clear h4 hk'
          go_wp2_with fail
          go_ret
          exact ⟨ret_i64 (by rw [HV.out, if_pos HX'.out]), hb⟩
  · have hv' : withinB v 0 16 = false := by simpa using hv
    have HV : Hid (faultS v E = 1) := show _ = _ by simp [faultS, hv']
    go_enter Try.func45, Try.ntmps45
    go_wp2_with (refine (within_any _ _ _ _).mono ?_; rintro e w' ⟨rfl, rfl⟩)
    go_ret
    exact ⟨ret_i64 HV.out.symm, Below.refl _ _⟩

/-- What reckon answers. -/
inductive ReckPost (v : Int) (E : List Ord3) (w : World) : Ending → World → Prop
  | fault (w' : World) : faultS v E ≠ 0 → Below w.heap.size w w' → ReckPost v E w (.returned (.tuple #[.map none, .int .i64 (faultS v E)])) w'
  | cycle (w' : World) (n : Nat) : v = n → faultS v E = 0 → reckD n (toldD n E) (n + 1) = none → Below w.heap.size w w' → ReckPost v E w (.returned (.tuple #[.map none, .int .i64 7])) w'
  | some (w' : World) (n : Nat) (d : Dist) (g m : Nat) : v = n → faultS v E = 0 → reckD n (toldD n E) (n + 1) = some d → OwnsD w' g m d → w.heap.size ≤ g → m ≤ 1000000 → Below w.heap.size w w' → ReckPost v E w (.returned (.tuple #[.map (some g), .int .i64 0])) w'
theorem pow_small {k : Nat} (h : k ≤ 17) : (1000 : Int) * 2 ^ k ≤ 200000000 := by
  have : (2 : Nat) ^ k ≤ 2 ^ 17 := Nat.pow_le_pow_right (by omega) h
  have h2 : (2 : Int) ^ k ≤ 2 ^ 17 := by exact_mod_cast this
  omega
theorem reck_none_mono {n : Nat} {d : Dist} {k : Nat} (h : reckD n d k = none) : ∀ m, k ≤ m → reckD n d m = none := by
  intro m hm
  induction m with
  | zero => obtain rfl : k = 0 := by omega
            exact h
  | succ m ih =>
    by_cases e : k = m + 1
    · subst e; exact h
    · simp only [reckD, ih (by omega)]
set_option maxHeartbeats 1000000 in
theorem reckon_any (v : Int) (A : Option Addr) (c : Nat) (E : List Ord3) (w : World) (hA : Holds w A (ordsV E)) (hm : E.length ≤ 9223372036854775807) :
    Calls Try.prog 38 #[.int .i64 v, .slice A E.length c] w (ReckPost v E w) := by
  by_cases hf : faultS v E = 0
  · obtain ⟨n, hvn, hn, hl, hE⟩ := faultS_ok hf
    subst hvn
    have HF := Lib.hid hf
    have hz : (faultS n E != 0) = false := by simp [hf]
    clear hf
    have HE := Lib.hid hE
    clear hE
    go_enter Try.func38, Try.ntmps38
    go_wp2_with fail
    (with_reducible refine (fault_any n A c E _ hA hm).mono ?_)
    rintro e w1 ⟨rfl, hb1⟩
    go_wp2_with fail
    (with_reducible refine (told_any n A c E _ hn hl (hA.below hb1) HE.out).mono ?_)
    rintro e w2 ⟨g, rfl, hg, hown, hb2⟩
    have hb := below_step hb1 hb2
    have hgw : w.heap.size ≤ g := by have := hb1.size; omega
    clear hb1 hb2 hg
    go_wp2_with fail
    clear hz
    go_loopw [20] (fun i wr => ∃ (k : Nat) (d : Dist), k ≤ n + 1 ∧ i = .int .i64 k ∧ Hid (reckD n (toldD n E) k = some d) ∧ OwnsD wr g (1000 + 400 * k) d ∧ Below w.heap.size w wr) (fun i _ => n + 1 - (intOf i).toNat)
    case atStart => exact ⟨0, toldD n E, by omega, rfl, (rfl : reckD n (toldD n E) 0 = some (toldD n E)), hown, hb⟩
    case round =>
      clear hown hb
      obtain ⟨k, d, hk, rfl, HK, hown, hb⟩ := hrel
      by_cases hlt : k < n + 1
      · obtain ⟨hinv, hbd⟩ := (reck_inv n E HE.out k hk).1 d HK.out
        obtain ⟨x, hx, hx0⟩ := hinv.self k (by omega) (by omega)
        have HX := Lib.hid (show (d k k).getD 0 = x by rw [hx]; rfl)
        have hpw := pow_small (k := k) (by omega)
        have HB := Lib.hid hbd
        clear hinv hbd
        by_cases hpos : 0 < x
        · have HN : Hid (reckD n (toldD n E) (n + 1) = none) := reck_none_mono (k := k + 1) (by simp only [reckD, HK.out, HX.out, if_pos hpos]) (n + 1) (by omega)
          clear hx
          go_wp2_with (first | (at_lookup; refine wpList_look_plain rfl _ _ _ rfl Try.underlying64 rfl hown k k x rfl (i64_small (by omega) (by omega)) (i64_small (by omega) (by omega)) HX.out ?_))
          go_ret2
          exact .cycle _ n rfl HF.out HN.out hb
        · have e0 : x = 0 := by omega
          subst e0
          have HX0 := Lib.hid hx
          have HN : Hid (reckD n (toldD n E) (k + 1) = some (thr k n d)) := show _ = _ by simp only [reckD, HK.out, HX.out, if_neg hpos]
          clear hx hpos hx0
          go_wp2_with (first | (at_lookup; refine wpList_look_plain rfl _ _ _ rfl Try.underlying64 rfl hown k k 0 rfl (i64_small (by omega) (by omega)) (i64_small (by omega) (by omega)) HX.out ?_))
          (with_reducible refine (through_any g _ n d k _ _ hown (by omega) hn ⟨by omega, by omega⟩ HX0.out HB.out hpw).mono ?_)
          rintro e w1 ⟨rfl, hown1, hg1⟩
          have hb1 := hb.grown hg1 hb.size (fun k hk => by cases hk; exact hgw)
          clear hown hb hg1
          go_wp2_with fail
          go_roundw
          case rel => exact ⟨k + 1, thr k n d, by omega, by go_num, HN.out, hown1.mono (by omega), hb1⟩
          case measure => simp [intOf]; omega
      · have hk' : k = n + 1 := by omega
        have HN : Hid (reckD n (toldD n E) (n + 1) = some d) := show _ = _ by rw [← hk']; exact HK.out
        clear hk'
        go_wp2_with fail
        go_ret2
        exact .some _ n d g _ rfl HF.out HN.out hown hgw (by omega) hb
  · have hz : (faultS v E != 0) = true := by simp [hf]
    go_enter Try.func38, Try.ntmps38
    go_wp2_with fail
    (with_reducible refine (fault_any v A c E _ hA hm).mono ?_)
    rintro e w1 ⟨rfl, hb1⟩
    go_wp2_with fail
    go_ret2
    exact .fault _ hf hb1
end Go.Proofs.Ytdpannjnhhjicaa
