/- The way to the laws of books: LRaise to LRef5. -/
import Derived.Test.YtfeodppdmbideaaGreatDoorBA6
namespace Go.Proofs.YtfeodppdmbideaaGreatDoor
open Go.RowKit

def withinB (n least most : Int) : Bool := decide (least ≤ n) && decide (n ≤ most)
theorem lwithin_any (n least most : Int) (w : World) : Calls Tryz.prog 195 #[.int .i64 n, .int .i64 least, .int .i64 most] w fun e w' => e = .returned (.bool (withinB n least most)) ∧ w = w' := by
  by_cases h1 : least ≤ n
  · have e : withinB n least most = decide (n ≤ most) := by simp [withinB, h1]
    rw [e]
    go_enter Tryz.func195, Tryz.ntmps195
    go_wp2_with fail
    go_ret
    exact ⟨rfl, rfl⟩
  · have e : withinB n least most = false := by simp [withinB, h1]
    rw [e]
    have h2 : decide (least ≤ n) = false := by simpa using h1
    go_enter Tryz.func195, Tryz.ntmps195
    go_wp2_with fail
    go_ret
    exact ⟨rfl, rfl⟩

/-- What raise does. -/
def Raised (g n : Nat) (d : Dist) (i j y : Int) (w : World) (e : Ending) (w' : World) : Prop := e = .returned (.tuple #[]) ∧ OwnsD w' g (n + 1) (raiseD d i j y) ∧ w.grownBy w' (some g)
set_option maxHeartbeats 1000000 in
theorem lraise_any (g n : Nat) (d : Dist) (i j y : Int) (w : World) (hown : OwnsD w g n d) (hn : n < 1000000000) (hi : I64 i) (hj : I64 j) (hy : I64 y) :
    Calls Tryz.prog 196 #[.map (some g), pairV i j, .int .i64 y] w (Raised g n d i j y w) := by
  cases hd : d i j with
  | none =>
    have HR := Lib.hid (raise_put (y := y) (Or.inl hd))
    have HD := Lib.hid hd
    clear hd
    go_enter Tryz.func196, Tryz.ntmps196
    go_wp2_with (first | (at_lookup; refine wpList_look_none rfl _ _ _ rfl Tryz.underlying187 rfl (hown.alloc _) i j rfl hi hj HD.out ?_) | (at_mapUpdate; refine wpList_storeD rfl _ _ _ _ rfl Tryz.underlying187 rfl (hown.alloc _) hn i j y rfl rfl hi hj hy ?_; intro w1 hown1 hg1))
    go_end0
    exact ⟨rfl, by rw [HR.out]; exact hown1, (World.grownBy_alloc w _ _).trans hg1⟩
  | some k =>
    by_cases hk : k < y
    · have HR := Lib.hid (raise_put (y := y) (Or.inr ⟨k, hd, hk⟩))
      have HD := Lib.hid hd
      clear hd
      go_enter Tryz.func196, Tryz.ntmps196
      go_wp2_with (first | (at_lookup; refine wpList_look_some rfl _ _ _ rfl Tryz.underlying187 rfl (hown.alloc _) i j k rfl hi hj HD.out ?_) | (at_mapUpdate; refine wpList_storeD rfl _ _ _ _ rfl Tryz.underlying187 rfl (hown.alloc _) hn i j y rfl rfl hi hj hy ?_; intro w1 hown1 hg1))
      go_end0
      exact ⟨rfl, by rw [HR.out]; exact hown1, (World.grownBy_alloc w _ _).trans hg1⟩
    · have HR := Lib.hid (raise_stay (y := y) hd hk)
      have HD := Lib.hid hd
      clear hd
      go_enter Tryz.func196, Tryz.ntmps196
      go_wp2_with (first | (at_lookup; refine wpList_look_some rfl _ _ _ rfl Tryz.underlying187 rfl (hown.alloc _) i j k rfl hi hj HD.out ?_))
      go_end0
      exact ⟨rfl, by rw [HR.out]; exact (hown.alloc _).mono (by omega), World.grownBy_alloc w _ _⟩

theorem i64_small {x : Int} (h : -1000000000000 ≤ x) (h2 : x ≤ 1000000000000) : I64 x := ⟨by omega, by omega⟩
/-- All that told may answer. -/
def ToldPost (n : Nat) (E : List Ord3) (w : World) (e : Ending) (w' : World) : Prop := ∃ g, e = .returned (.map (some g)) ∧ w.heap.size ≤ g ∧ OwnsD w' g 1000 (toldD n E) ∧ Below w.heap.size w w'
theorem toldO_snoc (d : Dist) (E : List Ord3) (o : Ord3) : toldO d (E ++ [o]) = raiseD (toldO d E) o.1 o.2.2 o.2.1 := by unfold toldO; rw [List.foldl_append]; rfl
set_option maxHeartbeats 1000000 in
theorem told_any (n : Nat) (A : Option Addr) (c : Nat) (E : List Ord3) (w : World) (hn : n ≤ 16) (hl : E.length ≤ 64) (hA : Holds w A (ordsV E)) (hE : RightE n E) :
    Calls Tryz.prog 170 #[.int .i64 n, .slice A E.length c] w (ToldPost n E w) := by
  have hmm := @run_makeMap Tryz.prog
  have HE := Lib.hid hE
  clear hE
  go_enter Tryz.func170, Tryz.ntmps170
  go_wp2_with fail
  go_loopw [12] (fun i wr => ∃ k : Nat, k ≤ n + 1 ∧ i = .int .i64 k ∧ OwnsD wr w.heap.size (2 * k) (toldV (fun _ _ => none) k) ∧ Below w.heap.size w wr) (fun i _ => n + 1 - (intOf i).toNat)
  case atStart => exact ⟨0, by omega, rfl, OwnsD.made w, (Below.refl _ _).alloc (Nat.le_refl _) _⟩
  case round =>
    obtain ⟨k, hk, rfl, hown, hb⟩ := hrel
    by_cases hlt : k < n + 1
    · go_wp2_with fail
      (with_reducible refine (lraise_any _ _ _ 0 k 0 _ hown (by omega) (i64_small (by omega) (by omega)) (i64_small (by omega) (by omega)) (i64_small (by omega) (by omega))).mono ?_)
      rintro e w1 ⟨rfl, hown1, hg1⟩
      have hb1 := hb.grown hg1 hb.size (fun k hk => by cases hk; exact Nat.le_refl _)
      clear hown hb hg1
      go_wp2_with fail
      (with_reducible refine (lraise_any _ _ _ k k 0 _ hown1 (by omega) (i64_small (by omega) (by omega)) (i64_small (by omega) (by omega)) (i64_small (by omega) (by omega))).mono ?_)
      rintro e w2 ⟨rfl, hown2, hg2⟩
      have hb2 := hb1.grown hg2 hb1.size (fun k hk => by cases hk; exact Nat.le_refl _)
      clear hown1 hb1 hg2
      go_wp2_with fail
      go_roundw
      case rel => exact ⟨k + 1, by omega, by go_num, hown2.mono (by omega), hb2⟩
      case measure => simp [intOf]; omega
    · go_wp2_with fail
      have hk' : k = n + 1 := by omega
      rw [hk'] at hown
      clear hk' hlt hk
      obtain ⟨wo, rfl⟩ : ∃ wo : World, wo = wr := ⟨_, rfl⟩
      go_loopw [27] (fun i wr => ∃ k : Nat, k ≤ E.length ∧ i = .int .i64 k ∧ OwnsD wr w.heap.size (100 + k) (toldO (toldV (fun _ _ => none) (n + 1)) (E.take k)) ∧ Below w.heap.size w wr) (fun i _ => E.length - (intOf i).toNat)
      case atStart => exact ⟨0, by omega, rfl, by simpa [toldO] using hown.mono (by omega), hb⟩
      case round =>
        clear hown hb
        obtain ⟨k, hk, rfl, hown, hb⟩ := hrel
        by_cases hlt : k < E.length
        · have hr := HE.out _ (List.getElem_mem hlt)
          obtain ⟨b, o, rfl, hb0, hc⟩ := (hA.below hb).at_ (by rw [ordsV_len]; omega)
          have s0 := hc (k * 3) _ (ordsV_get0 hlt)
          have s1 := hc (k * 3 + 1) _ (ordsV_get1 hlt)
          have s2 := hc (k * 3 + 2) _ (ordsV_get2 hlt)
          rw [← Nat.add_assoc] at s1 s2
          have HT := Lib.hid (List.take_succ_eq_append_getElem hlt)
          generalize E[k] = x at *
          obtain ⟨lo, ad, hi⟩ := x
          unfold RightO at hr
          simp only at s0 s1 s2 hr
          clear hc
          go_wp2_with fail
          (with_reducible refine (lraise_any _ _ _ lo hi ad _ (hown.alloc _) (by omega) (i64_small (by omega) (by omega)) (i64_small (by omega) (by omega)) (i64_small (by omega) (by omega))).mono ?_)
          rintro e w1 ⟨rfl, hown1, hg1⟩
          have hb1 := (hb.alloc hb.size (.cells #[.int .i64 lo, .int .i64 ad, .int .i64 hi] 118)).grown hg1 (by have := hb.size; simp; omega) (fun k hk => by cases hk; exact Nat.le_refl _)
          clear hown hb hg1 s0 s1 s2 hb0
          go_wp2_with fail
          go_roundw
          case rel => exact ⟨k + 1, by omega, by go_num, by rw [HT.out, toldO_snoc]; exact hown1.mono (by omega), hb1⟩
          case measure => simp [intOf]; omega
        · have hk' : k = E.length := by omega
          subst hk'
          rw [List.take_length] at hown
          go_wp2_with fail
          go_ret
          exact ⟨_, rfl, Nat.le_refl _, hown.mono (by omega), hb⟩
end Go.Proofs.YtfeodppdmbideaaGreatDoor
namespace Go.Proofs.YtfeodppdmbideaaGreatDoor
open Go.RowKit

theorem low_mid {mid : Int} {n : Nat} {d : Dist} (h0 : d mid mid = some 0) (k : Nat) : thrLow mid n d k k mid = d k mid := by
  rw [thrLow_eq mid n d h0, if_neg (by omega)]
theorem low_row {mid : Int} {n : Nat} {d : Dist} (h0 : d mid mid = some 0) (k : Nat) (j : Int) : thrLow mid n d k mid j = d mid j := by
  rw [thrLow_eq mid n d h0]
  split
  · rw [h0]; cases h : d mid j with
    | none => rfl
    | some b => exact comb_self rfl
  · rfl
theorem high_mid {mid : Int} {n : Nat} {d : Dist} (h0 : d mid mid = some 0) (k : Nat) (f : Int) (j : Nat) : thrHigh mid k f (thrLow mid n d k) j mid j = d mid j := by
  rw [thrHigh_eq, if_neg (by omega), low_row h0]
/-- What through does. -/
def Through (g m n : Nat) (d : Dist) (mid : Int) (w : World) (e : Ending) (w' : World) : Prop := e = .returned (.tuple #[]) ∧ OwnsD w' g (m + 400) (thr mid n d) ∧ w.grownBy w' (some g)
set_option maxHeartbeats 2000000 in
theorem through_any (g m n : Nat) (d : Dist) (mid : Int) (B : Int) (w : World) (hown : OwnsD w g m d) (hm : m < 100000000) (hn : n ≤ 16) (hmid : 0 ≤ mid ∧ mid ≤ n) (h0 : d mid mid = some 0) (hB : BdD B d) (hB1 : B ≤ 200000000) :
    Calls Tryz.prog 171 #[.map (some g), .int .i64 mid, .int .i64 n] w (Through g m n d mid w) := by
  have H0 := Lib.hid h0
  have HB := Lib.hid hB
  clear h0 hB
  go_enter Tryz.func171, Tryz.ntmps171
  go_wp2_with fail
  go_loopw [14] (fun i wr => ∃ k : Nat, k ≤ n + 1 ∧ i = .int .i64 k ∧ OwnsD wr g (m + 20 * k) (thrLow mid n d k) ∧ w.grownBy wr (some g)) (fun i _ => n + 1 - (intOf i).toNat)
  case atStart => exact ⟨0, by omega, rfl, hown, World.grownBy.refl w _⟩
  case round =>
    clear hown
    obtain ⟨k, hk, rfl, hown, hg⟩ := hrel
    by_cases hlt : k < n + 1
    · cases hv : d k mid with
      | none =>
        have HV := Lib.hid ((low_mid (n := n) H0.out k).trans hv)
        have HN := Lib.hid (show thrLow mid n d (k + 1) = thrLow mid n d k by simp only [thrLow, (low_mid (n := n) H0.out k).trans hv])
        clear hv
        go_wp2_with (first | (at_lookup; refine wpList_look_none rfl _ _ _ rfl Tryz.underlying187 rfl hown k mid rfl (i64_small (by omega) (by omega)) (i64_small (by omega) (by omega)) HV.out ?_))
        go_roundw
        case rel => exact ⟨k + 1, by omega, by go_num, by rw [HN.out]; exact hown.mono (by omega), hg⟩
        case measure => simp [intOf]; omega
      | some f =>
        have HF := HB.out _ _ _ hv
        have HV := Lib.hid ((low_mid (n := n) H0.out k).trans hv)
        have HN := Lib.hid (show thrLow mid n d (k + 1) = thrHigh mid k f (thrLow mid n d k) (n + 1) by simp only [thrLow, (low_mid (n := n) H0.out k).trans hv])
        clear hv
        go_wp2_with (first | (at_lookup; refine wpList_look_some rfl _ _ _ rfl Tryz.underlying187 rfl hown k mid f rfl (i64_small (by omega) (by omega)) (i64_small (by omega) (by omega)) HV.out ?_))
        obtain ⟨wo, rfl⟩ : ∃ wo : World, wo = wr := ⟨_, rfl⟩
        go_loopw [29] (fun i wr => ∃ j : Nat, j ≤ n + 1 ∧ i = .int .i64 j ∧ OwnsD wr g (m + 20 * k + j) (thrHigh mid k f (thrLow mid n d k) j) ∧ w.grownBy wr (some g)) (fun i _ => n + 1 - (intOf i).toNat)
        case atStart => exact ⟨0, by omega, rfl, hown, hg⟩
        case round =>
          clear hown hg
          obtain ⟨j, hj, rfl, hown, hg⟩ := hrel
          by_cases hlj : j < n + 1
          · cases hs : d mid j with
            | none =>
              have HS := Lib.hid ((high_mid (n := n) H0.out k f j).trans hs)
              have HM := Lib.hid (show thrHigh mid k f (thrLow mid n d k) (j + 1) = thrHigh mid k f (thrLow mid n d k) j by simp only [thrHigh, (high_mid (n := n) H0.out k f j).trans hs])
              clear hs
              go_wp2_with (first | (at_lookup; refine wpList_look_none rfl _ _ _ rfl Tryz.underlying187 rfl hown mid j rfl (i64_small (by omega) (by omega)) (i64_small (by omega) (by omega)) HS.out ?_))
              go_roundw
              case rel => exact ⟨j + 1, by omega, by go_num, by rw [HM.out]; exact hown.mono (by omega), hg⟩
              case measure => simp [intOf]; omega
            | some s =>
              have HG := HB.out _ _ _ hs
              have HS := Lib.hid ((high_mid (n := n) H0.out k f j).trans hs)
              have HM := Lib.hid (show thrHigh mid k f (thrLow mid n d k) (j + 1) = raiseD (thrHigh mid k f (thrLow mid n d k) j) k j (f + s) by simp only [thrHigh, (high_mid (n := n) H0.out k f j).trans hs])
              clear hs
              go_wp2_with (first | (at_lookup; refine wpList_look_some rfl _ _ _ rfl Tryz.underlying187 rfl hown mid j s rfl (i64_small (by omega) (by omega)) (i64_small (by omega) (by omega)) HS.out ?_))
              (with_reducible refine (lraise_any _ _ _ k j (f + s) _ hown (by omega) (i64_small (by omega) (by omega)) (i64_small (by omega) (by omega)) (i64_small (by omega) (by omega))).mono ?_)
              rintro e w1 ⟨rfl, hown1, hg1⟩
              have hg2 := hg.trans hg1
              clear hown hg hg1
              go_wp2_with fail
              go_roundw
              case rel => exact ⟨j + 1, by omega, by go_num, by rw [HM.out]; exact hown1.mono (by omega), hg2⟩
              case measure => simp [intOf]; omega
          · go_wp2_with fail
            have hj' : j = n + 1 := by omega
            rw [hj'] at hown
            clear hj' hlj hj
            go_roundw
            case rel => exact ⟨k + 1, by omega, by go_num, by rw [HN.out]; exact hown.mono (by omega), hg⟩
            case measure => simp [intOf]; omega
    · have hk' : k = n + 1 := by omega
      rw [hk'] at hown
      clear hk'
      go_wp2_with fail
      go_end0
      exact ⟨rfl, hown.mono (by omega), hg⟩
end Go.Proofs.YtfeodppdmbideaaGreatDoor
namespace Go.Proofs.YtfeodppdmbideaaGreatDoor
open Go.RowKit

theorem ret_i64 {a b : Int} (h : a = b) : Ending.returned (.int .i64 a) = .returned (.int .i64 b) := by rw [h]
def okO (v : Int) (o : Ord3) : Bool := withinB o.1 0 v && withinB o.2.2 0 v && withinB o.2.1 (-1000) 1000
def faultS (v : Int) (E : List Ord3) : Int := if withinB v 0 16 = true then (if 64 < E.length then 5 else if E.all (okO v) = true then 0 else 1) else 1
def AllOk (v : Int) (E : List Ord3) (k : Nat) : Prop := (E.take k).all (okO v) = true
theorem allOk_step {v : Int} {E : List Ord3} {k : Nat} (h : AllOk v E k) (hk : k < E.length) (ho : okO v E[k] = true) : AllOk v E (k + 1) := by
  unfold AllOk at *
  rw [List.take_succ_eq_append_getElem hk, List.all_append, h]
  simp [ho]
theorem notAll {v : Int} {E : List Ord3} {k : Nat} (hk : k < E.length) (ho : okO v E[k] = false) : ¬ E.all (okO v) = true := by
  intro h
  rw [List.all_eq_true] at h
  rw [h _ (List.getElem_mem hk)] at ho
  cases ho
theorem faultS_ok {v : Int} {E : List Ord3} (h : faultS v E = 0) : ∃ n : Nat, v = n ∧ n ≤ 16 ∧ E.length ≤ 64 ∧ RightE n E := by
  unfold faultS at h
  split at h
  · rename_i h1
    simp only [withinB, Bool.and_eq_true, decide_eq_true_eq] at h1
    split at h
    · omega
    · split at h
      · rename_i h2 h3
        refine ⟨v.toNat, by omega, by omega, by omega, fun o ho => ?_⟩
        rw [List.all_eq_true] at h3
        have := h3 o ho
        simp only [okO, withinB, Bool.and_eq_true, decide_eq_true_eq] at this
        unfold RightO
        omega
      · omega
  · omega

/-- What fault answers. -/
def FaultPost (v : Int) (E : List Ord3) (w : World) (e : Ending) (w' : World) : Prop := e = .returned (.int .i64 (faultS v E)) ∧ Below w.heap.size w w'
set_option maxHeartbeats 1000000 in
theorem fault_any (v : Int) (A : Option Addr) (c : Nat) (E : List Ord3) (w : World) (hA : Holds w A (ordsV E)) (hm : E.length ≤ 9223372036854775807) :
    Calls Tryz.prog 169 #[.int .i64 v, .slice A E.length c] w (FaultPost v E w) := by
  by_cases hv : withinB v 0 16 = true
  · by_cases hl : 64 < E.length
    · have t1 : (64 : Int) < (E.length : Int) := by omega
      have HV : Hid (faultS v E = 5) := show _ = _ by simp [faultS, hv, hl]
      go_enter Tryz.func169, Tryz.ntmps169
      go_wp2_with (refine (lwithin_any _ _ _ _).mono ?_; rintro e w' ⟨rfl, rfl⟩)
      go_ret
      exact ⟨ret_i64 HV.out.symm, Below.refl _ _⟩
    · have t1 : ¬ (64 : Int) < (E.length : Int) := by omega
      have HV : Hid (faultS v E = if E.all (okO v) = true then 0 else 1) := show _ = _ by simp [faultS, hv, hl]
      go_enter Tryz.func169, Tryz.ntmps169
      go_wp2_with (refine (lwithin_any _ _ _ _).mono ?_; rintro e w' ⟨rfl, rfl⟩)
      clear hv t1
      go_loopw [17] (fun i wr => ∃ k : Nat, k ≤ E.length ∧ i = .int .i64 k ∧ Hid (AllOk v E k) ∧ Below w.heap.size w wr) (fun i _ => E.length - (intOf i).toNat)
      case atStart => exact ⟨0, by omega, rfl, (by simp [AllOk] : AllOk v E 0), Below.refl _ _⟩
      case round =>
        obtain ⟨k, hk, rfl, HO, hb⟩ := hrel
        by_cases hlt : k < E.length
        · obtain ⟨b, o, rfl, hb0, hc⟩ := (hA.below hb).at_ (by rw [ordsV_len]; omega)
          have s0 := hc (k * 3) _ (ordsV_get0 hlt)
          have s1 := hc (k * 3 + 1) _ (ordsV_get1 hlt)
          have s2 := hc (k * 3 + 2) _ (ordsV_get2 hlt)
          rw [← Nat.add_assoc] at s1 s2
          have HS := Lib.hid fun h => allOk_step HO.out hlt h
          have HX := Lib.hid fun h => notAll (v := v) hlt h
          generalize E[k] = x at *
          obtain ⟨lo, ad, hi⟩ := x
          simp only at s0 s1 s2
          clear hc
          by_cases h1 : withinB lo 0 v = true
          · by_cases h2 : withinB hi 0 v = true
            · by_cases h3 : withinB ad (-1000) 1000 = true
              · have HS' := Lib.hid (HS.out (by simp [okO, h1, h2, h3]))
                go_wp2_with (refine (lwithin_any _ _ _ _).mono ?_; rintro e w' ⟨rfl, rfl⟩)
                go_roundw
                case rel => exact ⟨k + 1, by omega, by go_num, HS'.out, hb.alloc hb.size _⟩
                case measure => simp [intOf]; omega
              · have h3' : withinB ad (-1000) 1000 = false := by simpa using h3
                have HX' := Lib.hid (HX.out (by simp [okO, h3']))
                go_wp2_with (refine (lwithin_any _ _ _ _).mono ?_; rintro e w' ⟨rfl, rfl⟩)
                go_ret
                exact ⟨ret_i64 (by rw [HV.out, if_neg HX'.out]), hb.alloc hb.size _⟩
            · have h2' : withinB hi 0 v = false := by simpa using h2
              have HX' := Lib.hid (HX.out (by simp [okO, h2']))
              go_wp2_with (refine (lwithin_any _ _ _ _).mono ?_; rintro e w' ⟨rfl, rfl⟩)
              go_ret
              exact ⟨ret_i64 (by rw [HV.out, if_neg HX'.out]), hb.alloc hb.size _⟩
          · have h1' : withinB lo 0 v = false := by simpa using h1
            have HX' := Lib.hid (HX.out (by simp [okO, h1']))
            go_wp2_with (refine (lwithin_any _ _ _ _).mono ?_; rintro e w' ⟨rfl, rfl⟩)
            go_ret
            exact ⟨ret_i64 (by rw [HV.out, if_neg HX'.out]), hb.alloc hb.size _⟩
        · have hk' : k = E.length := by omega
          have h4 : E.all (okO v) = true := by
            have := HO.out
            unfold AllOk at this
            rwa [hk', List.take_length] at this
          have HX' := Lib.hid h4
          clear h4 hk'
          go_wp2_with fail
          go_ret
          exact ⟨ret_i64 (by rw [HV.out, if_pos HX'.out]), hb⟩
  · have hv' : withinB v 0 16 = false := by simpa using hv
    have HV : Hid (faultS v E = 1) := show _ = _ by simp [faultS, hv']
    go_enter Tryz.func169, Tryz.ntmps169
    go_wp2_with (refine (lwithin_any _ _ _ _).mono ?_; rintro e w' ⟨rfl, rfl⟩)
    go_ret
    exact ⟨ret_i64 HV.out.symm, Below.refl _ _⟩

/-- What reckon answers. -/
inductive ReckPost (v : Int) (E : List Ord3) (w : World) : Ending → World → Prop
  | fault (w' : World) : faultS v E ≠ 0 → Below w.heap.size w w' → ReckPost v E w (.returned (.tuple #[.map none, .int .i64 (faultS v E)])) w'
  | cycle (w' : World) (n : Nat) : v = n → faultS v E = 0 → reckD n (toldD n E) (n + 1) = none → Below w.heap.size w w' → ReckPost v E w (.returned (.tuple #[.map none, .int .i64 7])) w'
  | some (w' : World) (n : Nat) (d : Dist) (g m : Nat) : v = n → faultS v E = 0 → reckD n (toldD n E) (n + 1) = some d → OwnsD w' g m d → w.heap.size ≤ g → m ≤ 1000000 → Below w.heap.size w w' → ReckPost v E w (.returned (.tuple #[.map (some g), .int .i64 0])) w'
theorem pow_small {k : Nat} (h : k ≤ 17) : (1000 : Int) * 2 ^ k ≤ 200000000 := by
  have : (2 : Nat) ^ k ≤ 2 ^ 17 := Nat.pow_le_pow_right (by omega) h
  have h2 : (2 : Int) ^ k ≤ 2 ^ 17 := by exact_mod_cast this
  omega
theorem reck_none_mono {n : Nat} {d : Dist} {k : Nat} (h : reckD n d k = none) : ∀ m, k ≤ m → reckD n d m = none := by
  intro m hm
  induction m with
  | zero => obtain rfl : k = 0 := by omega
            exact h
  | succ m ih =>
    by_cases e : k = m + 1
    · subst e; exact h
    · simp only [reckD, ih (by omega)]
set_option maxHeartbeats 1000000 in
theorem reckon_any (v : Int) (A : Option Addr) (c : Nat) (E : List Ord3) (w : World) (hA : Holds w A (ordsV E)) (hm : E.length ≤ 9223372036854775807) :
    Calls Tryz.prog 124 #[.int .i64 v, .slice A E.length c] w (ReckPost v E w) := by
  by_cases hf : faultS v E = 0
  · obtain ⟨n, hvn, hn, hl, hE⟩ := faultS_ok hf
    subst hvn
    have HF := Lib.hid hf
    have hz : (faultS n E != 0) = false := by simp [hf]
    clear hf
    have HE := Lib.hid hE
    clear hE
    go_enter Tryz.func124, Tryz.ntmps124
    go_wp2_with fail
    (with_reducible refine (fault_any n A c E _ hA hm).mono ?_)
    rintro e w1 ⟨rfl, hb1⟩
    go_wp2_with fail
    (with_reducible refine (told_any n A c E _ hn hl (hA.below hb1) HE.out).mono ?_)
    rintro e w2 ⟨g, rfl, hg, hown, hb2⟩
    have hb := below_step hb1 hb2
    have hgw : w.heap.size ≤ g := by have := hb1.size; omega
    clear hb1 hb2 hg
    go_wp2_with fail
    clear hz
    go_loopw [20] (fun i wr => ∃ (k : Nat) (d : Dist), k ≤ n + 1 ∧ i = .int .i64 k ∧ Hid (reckD n (toldD n E) k = some d) ∧ OwnsD wr g (1000 + 400 * k) d ∧ Below w.heap.size w wr) (fun i _ => n + 1 - (intOf i).toNat)
    case atStart => exact ⟨0, toldD n E, by omega, rfl, (rfl : reckD n (toldD n E) 0 = some (toldD n E)), hown, hb⟩
    case round =>
      clear hown hb
      obtain ⟨k, d, hk, rfl, HK, hown, hb⟩ := hrel
      by_cases hlt : k < n + 1
      · obtain ⟨hinv, hbd⟩ := (reck_inv n E HE.out k hk).1 d HK.out
        obtain ⟨x, hx, hx0⟩ := hinv.self k (by omega) (by omega)
        have HX := Lib.hid (show (d k k).getD 0 = x by rw [hx]; rfl)
        have hpw := pow_small (k := k) (by omega)
        have HB := Lib.hid hbd
        clear hinv hbd
        by_cases hpos : 0 < x
        · have HN : Hid (reckD n (toldD n E) (n + 1) = none) := reck_none_mono (k := k + 1) (by simp only [reckD, HK.out, HX.out, if_pos hpos]) (n + 1) (by omega)
          clear hx
          go_wp2_with (first | (at_lookup; refine wpList_look_plain rfl _ _ _ rfl Tryz.underlying187 rfl hown k k x rfl (i64_small (by omega) (by omega)) (i64_small (by omega) (by omega)) HX.out ?_))
          go_ret2
          exact .cycle _ n rfl HF.out HN.out hb
        · have e0 : x = 0 := by omega
          subst e0
          have HX0 := Lib.hid hx
          have HN : Hid (reckD n (toldD n E) (k + 1) = some (thr k n d)) := show _ = _ by simp only [reckD, HK.out, HX.out, if_neg hpos]
          clear hx hpos hx0
          go_wp2_with (first | (at_lookup; refine wpList_look_plain rfl _ _ _ rfl Tryz.underlying187 rfl hown k k 0 rfl (i64_small (by omega) (by omega)) (i64_small (by omega) (by omega)) HX.out ?_))
          (with_reducible refine (through_any g _ n d k _ _ hown (by omega) hn ⟨by omega, by omega⟩ HX0.out HB.out hpw).mono ?_)
          rintro e w1 ⟨rfl, hown1, hg1⟩
          have hb1 := hb.grown hg1 hb.size (fun k hk => by cases hk; exact hgw)
          clear hown hb hg1
          go_wp2_with fail
          go_roundw
          case rel => exact ⟨k + 1, thr k n d, by omega, by go_num, HN.out, hown1.mono (by omega), hb1⟩
          case measure => simp [intOf]; omega
      · have hk' : k = n + 1 := by omega
        have HN : Hid (reckD n (toldD n E) (n + 1) = some d) := show _ = _ by rw [← hk']; exact HK.out
        clear hk'
        go_wp2_with fail
        go_ret2
        exact .some _ n d g _ rfl HF.out HN.out hown hgw (by omega) hb
  · have hz : (faultS v E != 0) = true := by simp [hf]
    go_enter Tryz.func124, Tryz.ntmps124
    go_wp2_with fail
    (with_reducible refine (fault_any v A c E _ hA hm).mono ?_)
    rintro e w1 ⟨rfl, hb1⟩
    go_wp2_with fail
    go_ret2
    exact .fault _ hf hb1
end Go.Proofs.YtfeodppdmbideaaGreatDoor
namespace Go.Proofs.YtfeodppdmbideaaGreatDoor
open Go.RowKit

def distS (v : Int) (E : List Ord3) : Option Dist := if faultS v E = 0 then reckD v.toNat (toldD v.toNat E) (v.toNat + 1) else none
def errS (v : Int) (E : List Ord3) : Int := if faultS v E = 0 then (if (distS v E).isSome = true then 0 else 7) else faultS v E
inductive ReckS (v : Int) (E : List Ord3) (w : World) : Ending → World → Prop
  | err (w' : World) : errS v E ≠ 0 → distS v E = none → Below w.heap.size w w' → ReckS v E w (.returned (.tuple #[.map none, .int .i64 (errS v E)])) w'
  | ok (w' : World) (n : Nat) (d : Dist) (g m : Nat) : v = n → n ≤ 16 → errS v E = 0 → distS v E = some d → OwnsD w' g m d → w.heap.size ≤ g → m ≤ 1000000 → Below w.heap.size w w' → ReckS v E w (.returned (.tuple #[.map (some g), .int .i64 0])) w'
theorem reckS_any (v : Int) (A : Option Addr) (c : Nat) (E : List Ord3) (w : World) (hA : Holds w A (ordsV E)) (hm : E.length ≤ 9223372036854775807) :
    Calls Tryz.prog 124 #[.int .i64 v, .slice A E.length c] w (ReckS v E w) := by
  refine (reckon_any v A c E w hA hm).mono ?_
  rintro e w' (⟨_, h1, h2⟩ | ⟨_, n, rfl, h1, h2, h3⟩ | ⟨_, n, d, g, m, rfl, h1, h2, h3, h4, h5, h6⟩)
  · have e : faultS v E = errS v E := by simp [errS, h1]
    rw [e]
    exact .err _ (by rwa [← e]) (by simp [distS, h1]) h2
  · have hd : distS n E = none := by simp [distS, h1, h2]
    have e : (7 : Int) = errS n E := by simp [errS, h1, hd]
    rw [e]
    exact .err _ (by rw [← e]; omega) hd h3
  · have hd : distS n E = some d := by simp [distS, h1, h2]
    obtain ⟨k, hk, hk2, _⟩ := faultS_ok h1
    exact .ok _ n d g m rfl (by omega) (by simp [errS, h1, hd]) hd h3 h4 h5 h6

theorem check_any (v : Int) (A : Option Addr) (c : Nat) (E : List Ord3) (w : World) (hA : Holds w A (ordsV E)) (hm : E.length ≤ 9223372036854775807) :
    Calls Tryz.prog 79 #[.int .i64 v, .slice A E.length c] w fun e w' => e = .returned (.int .i64 (errS v E)) ∧ Below w.heap.size w w' := by
  have HR := Lib.hid fun w hA => reckS_any v A c E w hA hm
  go_enter Tryz.func79, Tryz.ntmps79
  go_wp2_with fail
  refine (HR.out _ hA).mono ?_
  rintro e w' (⟨_, h1, h2, h3⟩ | ⟨_, n, d, g, m, rfl, h1, h2, h3, h4, h5, h6, h7⟩)
  · clear h2
    go_wp2_with fail
    go_ret
    exact ⟨rfl, h3⟩
  · have H2 := Lib.hid h2
    clear h2 h3
    go_wp2_with fail
    go_ret
    exact ⟨ret_i64 H2.out.symm, h7⟩
theorem intsV_set (l : List Int) (k : Nat) (x : Int) : intsV (l.set k x) = (intsV l).set k (.int .i64 x) := by unfold intsV; rw [List.map_set]
end Go.Proofs.YtfeodppdmbideaaGreatDoor
namespace Go.Proofs.YtfeodppdmbideaaGreatDoor
open Go.RowKit

/-- Ints in a row of one's own. -/
def OwnI (w : World) (base g n : Nat) (l : List Int) : Prop := l.length = n ∧ w.ownsRow base 3 1 (.slice (some ⟨g, 0, none⟩) n n) n (intsV l)
namespace OwnI
variable {w w' : World} {base g n : Nat} {l : List Int}
theorem alloc (h : OwnI w base g n l) (o : Obj) : OwnI (w.alloc o) base g n l := ⟨h.1, h.2.alloc o⟩
theorem drewN (h : OwnI w base g n l) (k : Nat) : OwnI (w.drewN k) base g n l := h
theorem cell (h : OwnI w base g n l) {i : Nat} (hi : i < n) : w.cell? ⟨g, i, none⟩ = some (.int .i64 (at0 l i)) := by
  have hl : i < l.length := by rw [h.1]; exact hi
  have := h.2.cellAt i (by omega)
  rw [this, intsV_get hl]
  unfold at0
  rw [List.getD_eq_getElem?_getD, Int.toNat_natCast, List.getElem?_eq_getElem hl]
  rfl
theorem frozen (h : OwnI w base g n l) (i : Nat) : w.frozen? ⟨g, i, none⟩ = false := h.2.frozenAt i
theorem set_ (h : OwnI w base g n l) (i : Nat) (y : Int) : OwnI (w.setCell ⟨g, i, none⟩ (.int .i64 y)) base g n (l.set i y) :=
  ⟨by rw [List.length_set]; exact h.1, by rw [intsV_set]; exact (h.2.stored i (.int .i64 y)).1⟩
theorem lt (h : OwnI w base g n l) : g < w.heap.size := (h.2.lt g rfl).2
end OwnI
end Go.Proofs.YtfeodppdmbideaaGreatDoor
namespace Go.Proofs.YtfeodppdmbideaaGreatDoor
open Go.RowKit

theorem err_fault {v : Int} {E : List Ord3} (h : faultS v E ≠ 0) : errS v E = faultS v E := by simp [errS, h]
theorem check_n (v : Int) (A : Option Addr) (c n : Nat) (E : List Ord3) (w : World) (hn : E.length = n) (hA : Holds w A (ordsV E)) (hm : n ≤ 9223372036854775807) :
    Calls Tryz.prog 79 #[.int .i64 v, .slice A n c] w fun e w' => e = .returned (.int .i64 (errS v E)) ∧ Below w.heap.size w w' := by
  subst hn
  exact check_any v A c E w hA hm
end Go.Proofs.YtfeodppdmbideaaGreatDoor
