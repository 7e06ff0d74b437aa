/- The document's carried, plus, less and minus. -/
import Derived.Test.YtegbhenchmfngaaRef1
namespace Go.Proofs.Ytegbhenchmfngaa
open Go.RowKit

theorem own_take {w : World} {B n m c : Nat} {A : Option Addr} {f : Nat → Nat} (h : w.ownsRow B 3 1 (.slice A n c) n (ints f n)) (hm : m ≤ n) : w.ownsRow B 3 1 (.slice A m c) m (ints f m) := by
  refine ⟨by simp [ints], ?_⟩
  rcases h.2 with ⟨e, h0⟩ | ⟨g, cap, cur, e, hB, hb, hnc, hc, hs, ht⟩
  · cases e
    exact .inl ⟨by rw [show m = 0 by omega], by omega⟩
  · cases e
    refine .inr ⟨g, c, cur, rfl, hB, hb, by omega, hc, hs, ?_⟩
    have e : (ints f n).take m = ints f m := by
      unfold ints
      rw [← List.map_take, List.take_range, Nat.min_eq_left hm]
    rw [← e, ← ht, List.take_take]
    congr 1
    omega
theorem own_base {w : World} {B B' n : Nat} {e : TypeId} {v : Value} {xs : List Value} (h : w.ownsRow B e 1 v n xs) (hB : B' ≤ B) : w.ownsRow B' e 1 v n xs :=
  ⟨h.1, h.2.imp id fun ⟨g, cap, cur, e, hg, h⟩ => ⟨g, cap, cur, e, by omega, h⟩⟩
/-- What carried answers: digits in new memory. -/
def DigOwn (N : Nat) (w : World) (e : Ending) (w' : World) : Prop :=
  ∃ A c, e = .returned (.slice A (N8.wlen N) c) ∧ w'.ownsRow w.heap.size 3 1 (.slice A (N8.wlen N) c) (N8.wlen N) (ints (N8.dig N) (N8.wlen N)) ∧ IsD w' A (N8.wlen N) N ∧ N8.wlen N ≤ c ∧ c ≤ 9223372036854775807 ∧ Below w.heap.size w w'

set_option maxHeartbeats 1000000 in
theorem carried_own (A : Option Addr) (n c : Nat) (f : Nat → Nat) (w : World) (h : IsL w A n f) (hn : n ≤ 1000000) (hf : ∀ j, j < n → f j ≤ 1099511627776) (T : Nat) (hT : T = N8.ofDigs f n) :
    Calls Try.prog 54 #[.slice A n c] w (DigOwn T w) := by
  obtain ⟨i0, hi, hz0, hz1, hz2⟩ := info_parts info3
  have HT := Lib.hid hT
  have HFB := Lib.hid hf
  clear hT hf
  go_enter Try.func54, Try.ntmps54
  go_wp2_with fail
  go_loopw [3, 4, 5] (fun v cy i wr => ∃ k y : Nat, i = .int .i64 k ∧ cy = .int .i64 y ∧ y ≤ 1152921504606846976 ∧ (k ≤ n ∨ k ≤ n + 60 ∧ Hid (y < 2 ^ (60 - (k - n)))) ∧ Hid (y = N8.ofDigs f (min k n) / N8.pw k) ∧
    Hid (∀ j, j < k → True) ∧ wr.ownsRow w.heap.size 3 1 v k (ints (N8.dig (N8.ofDigs f (min k n))) k) ∧ Below w.heap.size w wr)
    (fun _ cy i _ => (n - (intOf i).toNat) * 1152921504606846977 + (intOf cy).toNat)
  case atStart => exact ⟨0, 0, rfl, rfl, by omega, .inl (Nat.zero_le _), show _ = _ by rw [Nat.zero_min, N8.ofDigs, Nat.zero_div], fun _ _ => trivial, World.ownsRow_nil _ _ _ _, Below.refl _ _⟩
  case round =>
    obtain ⟨k, y, rfl, rfl, hy, hk, HY, _, hown, hb⟩ := hrel
    have hBw := hb.size
    by_cases hlt : k < n
    · have hw := h.below hb
      obtain ⟨b, o, rfl, hcell⟩ := hw (by omega)
      have h0 := hcell k hlt
      have hfk := HFB.out k hlt
      have hyb : y ≤ 1099511627776 * 2 := by
        rw [HY.out, Nat.min_eq_left (by omega)]
        clear hk HY hown h0 hcell hw
        have key : ∀ m, m ≤ n → N8.ofDigs f m ≤ 1099511627776 * 2 * N8.pw m := by
          intro m
          induction m with
          | zero => intro _; exact Nat.zero_le _
          | succ m ih =>
            intro hm
            have h1 := ih (by omega)
            have h2 := HFB.out m (by omega)
            have h3 : f m * N8.pw m ≤ 1099511627776 * N8.pw m := Nat.mul_le_mul_right _ h2
            rw [N8.ofDigs, N8.pw_succ, N8.K_eq]
            omega
        have h1 := key k (by omega)
        exact Nat.div_le_of_le_mul (by rw [Nat.mul_comm]; exact h1)
      have hs0 : N8.ofDigs f (min (k + 1) n) = N8.ofDigs f (min k n) + f k * N8.pw k := by rw [Nat.min_eq_left (by omega), Nat.min_eq_left (by omega), N8.ofDigs]
      obtain ⟨s, hs⟩ : ∃ s, s = y + f k := ⟨_, rfl⟩
      have q1 : N8.ofDigs f (min (k + 1) n) / N8.pw (k + 1) = s / 256 := by rw [hs0, N8.div_add_pw', ← HY.out, hs]; rfl
      have q2 : N8.dig (N8.ofDigs f (min (k + 1) n)) k = s % 256 := by rw [hs0, N8.dig_add_pw, ← HY.out, hs]; rfl
      have q3 : ints (N8.dig (N8.ofDigs f (min (k + 1) n))) k = ints (N8.dig (N8.ofDigs f (min k n))) k := ints_congr fun j hj => by rw [hs0, N8.dig_add_pw_lt _ _ hj]
      have e1 : (y : Int) + (f k : Int) = (s : Int) := by omega
      have hsb : s ≤ 1099511627776 * 3 := by omega
      have Q1 := Lib.hid q1
      have Q2 := Lib.hid q2
      have Q3 := Lib.hid q3
      clear hcell hs0 hs q1 q2 q3 hk
      go_wp2_with (at_builtin; go_must (refine wpList_append_own _ rfl (.tmp 26) (.tmp 29) _ rfl w.heap.size 3 i0 _ 1 8 Try.underlying52 hi hz0 hz1 hz2 rfl (by omega) _ k _ rfl (hown.alloc _) ⟨wr.heap.size, 0, none⟩ 1 1 [.int .i64 ((s : Int) % 256)] rfl rfl (news_one _ _ _) (by intro u hu; rw [List.mem_singleton.1 hu]; rfl) (by unfold maxLen; omega) (by omega) (by simp; omega) ?_); intro v' w4 hown4 hg4 hnil4)
      have hb4 := (hb.alloc hb.size (.cells #[.int .i64 ((s : Int) % 256)] 3)).grown hg4 (by simp; omega) (fun x hx => (hown.lt x hx).1)
      clear e1 hg4 hnil4
      go_roundw
      case rel =>
        have ev : (s : Int) % 256 = ((s % 256 : Nat) : Int) := by omega
        rw [ev] at hown4
        exact ⟨k + 1, s / 256, by go_num, by go_num, by omega, .inl (by omega), show _ = _ from Q1.out.symm, fun _ _ => trivial, by rw [ints_succ, Q3.out, Q2.out]; exact hown4, hb4⟩
      case measure => simp [intOf] <;> omega
    · have hmin : min k n = n := Nat.min_eq_right (by omega)
      have hmin' : min (k + 1) n = n := Nat.min_eq_right (by omega)
      rw [hmin, ← HT.out] at HY hown
      clear hmin
      by_cases h0 : y = 0
      · subst h0
        have hTk : T < N8.pw k := by
          have := HY.out
          rcases Nat.div_eq_zero_iff.1 this.symm with h | h
          · have := N8.pw_pos k; omega
          · exact h
        obtain ⟨A', c', rfl, hc1, hc2⟩ := own_formI hown
        have hD : IsD wr A' k T := ⟨hTk, own_isL hown⟩
        have HOT := Lib.hid (own_take hown hD.wl)
        clear hown hTk HY hmin'
        go_wp2_with (go_at_call 63; refine (cut_any A' k c' T _ hD hc1 hc2).mono ?_; rintro e w' ⟨rfl, rfl⟩)
        go_ret
        exact ⟨A', c', rfl, HOT.out, hD.trim, Nat.le_trans hD.wl hc1, hc2, hb⟩
      · have hpos : (0 : Int) < (y : Int) := by omega
        have hkb : k ≤ n + 60 ∧ y < 2 ^ (60 - (k - n)) + (if k ≤ n then 1 else 0) := by
          rcases hk with hk | hk
          · have : k = n := by omega
            subst this
            rw [Nat.sub_self, if_pos (Nat.le_refl _)]
            have : 2 ^ (60 - 0) = 1152921504606846976 := by decide
            omega
          · refine ⟨hk.1, Nat.lt_of_lt_of_le hk.2.out (Nat.le_add_right _ _)⟩
        have hk60 : k < n + 60 := by
          rcases Nat.lt_or_ge k (n + 60) with h | h
          · exact h
          · have h1 : 60 - (k - n) = 0 := by omega
            have h2 := hkb.2
            rw [h1, if_neg (by omega), Nat.pow_zero] at h2
            omega
        have hnext : y / 256 < 2 ^ (60 - (k + 1 - n)) := by
          have h2 := hkb.2
          have h3 : 2 ^ (60 - (k - n)) = 2 * 2 ^ (60 - (k + 1 - n)) := by rw [← Nat.pow_succ']; congr 1; omega
          have h4 := Nat.two_pow_pos (60 - (k + 1 - n))
          have h5 : (if k ≤ n then 1 else 0) ≤ 1 := by split <;> omega
          omega
        have q1 : T / N8.pw (k + 1) = y / 256 := by rw [N8.pw_succ, ← Nat.div_div_eq_div_mul, ← HY.out]; rfl
        have q2 : N8.dig T k = y % 256 := by unfold N8.dig; rw [← HY.out]; rfl
        have Q1 := Lib.hid q1
        have Q2 := Lib.hid q2
        have HNX := Lib.hid hnext
        have HM := Lib.hid hmin'
        clear q1 q2 hnext hkb hk hmin'
        go_wp2_with (at_builtin; go_must (refine wpList_append_own _ rfl (.tmp 26) (.tmp 29) _ rfl w.heap.size 3 i0 _ 1 8 Try.underlying52 hi hz0 hz1 hz2 rfl (by omega) _ k _ rfl (hown.alloc _) ⟨wr.heap.size, 0, none⟩ 1 1 [.int .i64 ((y : Int) % 256)] rfl rfl (news_one _ _ _) (by intro u hu; rw [List.mem_singleton.1 hu]; rfl) (by unfold maxLen; omega) (by omega) (by simp; omega) ?_); intro v' w4 hown4 hg4 hnil4)
        have hb4 := (hb.alloc hb.size (.cells #[.int .i64 ((y : Int) % 256)] 3)).grown hg4 (by simp; omega) (fun x hx => (hown.lt x hx).1)
        clear hg4 hnil4
        go_roundw
        case rel =>
          have ev : (y : Int) % 256 = ((y % 256 : Nat) : Int) := by omega
          rw [ev] at hown4
          exact ⟨k + 1, y / 256, by go_num, by go_num, by omega, .inr ⟨by omega, HNX.out⟩, show _ = _ by rw [HM.out, ← HT.out]; exact Q1.out.symm, fun _ _ => trivial, by rw [HM.out, ← HT.out, ints_succ, Q2.out]; exact hown4, hb4⟩
        case measure => simp [intOf] <;> omega

theorem carried_any (A : Option Addr) (n c : Nat) (f : Nat → Nat) (w : World) (h : IsL w A n f) (hn : n ≤ 1000000) (hf : ∀ j, j < n → f j ≤ 1099511627776) (T : Nat) (hT : T = N8.ofDigs f n) :
    Calls Try.prog 54 #[.slice A n c] w (DigPost T w) :=
  (carried_own A n c f w h hn hf T hT).mono fun _ _ ⟨A, c, h1, _, h2, h3, h4, h5⟩ => ⟨A, c, h1, h2, h3, h4, h5⟩

set_option maxHeartbeats 1000000 in
theorem plus_any (A B : Option Addr) (n c m d M N : Nat) (w : World) (hM : IsD w A n M) (hN : IsD w B m N) (hn : n ≤ 100000) (hm : m ≤ 100000) :
    Calls Try.prog 46 #[.slice A n c, .slice B m d] w (DigPost (M + N) w) := by
  obtain ⟨i0, hi, hz0, hz1, hz2⟩ := info_parts info3
  go_enter Try.func46, Try.ntmps46
  go_wp2_with fail
  go_loopw [5, 6] (fun v i wr => ∃ k : Nat, k ≤ max n m ∧ i = .int .i64 k ∧ wr.ownsRow w.heap.size 3 1 v k (ints (fun j => N8.dig M j + N8.dig N j) k) ∧ Below w.heap.size w wr) (fun _ i _ => max n m - (intOf i).toNat)
  case atStart => exact ⟨0, Nat.zero_le _, rfl, World.ownsRow_nil _ _ _ _, Below.refl _ _⟩
  case round =>
    obtain ⟨k, hk, rfl, hown, hb⟩ := hrel
    have hBw := hb.size
    have hMw := hM.below hb
    have hNw := hN.below hb
    have hdM := N8.dig_lt M k
    have hdN := N8.dig_lt N k
    by_cases hlt : k < max n m
    · obtain ⟨s, hs⟩ : ∃ s, s = N8.dig M k + N8.dig N k := ⟨_, rfl⟩
      have hfin : ∀ (vv : Value), wr.ownsRow w.heap.size 3 1 vv k (ints (fun j => N8.dig M j + N8.dig N j) k) → ints (fun j => N8.dig M j + N8.dig N j) (k + 1) = ints (fun j => N8.dig M j + N8.dig N j) k ++ [.int .i64 (s : Int)] := fun _ _ => by rw [ints_succ, hs]
      have HF := Lib.hid (hfin _ hown)
      have HS := Lib.hid hs
      have cM : k < n → ∃ b o, A = some ⟨b, o, none⟩ ∧ wr.cell? ⟨b, o + k, none⟩ = some (.int .i64 (N8.dig M k)) := fun h => by
        obtain ⟨b, o, e, hc⟩ := hMw.2 (by omega)
        exact ⟨b, o, e, hc k h⟩
      have cN : k < m → ∃ b o, B = some ⟨b, o, none⟩ ∧ wr.cell? ⟨b, o + k, none⟩ = some (.int .i64 (N8.dig N k)) := fun h => by
        obtain ⟨b, o, e, hc⟩ := hNw.2 (by omega)
        exact ⟨b, o, e, hc k h⟩
      have zM : n ≤ k → N8.dig M k = 0 := fun h => N8.dig_of_lt (Nat.lt_of_lt_of_le hM.1 (N8.pw_mono h))
      have zN : m ≤ k → N8.dig N k = 0 := fun h => N8.dig_of_lt (Nat.lt_of_lt_of_le hN.1 (N8.pw_mono h))
      clear hfin hs
      generalize N8.dig M k = x at *
      generalize N8.dig N k = y at *
      by_cases h1 : k < n
      all_goals by_cases h2 : k < m
      · obtain ⟨b, o, rfl, hc1⟩ := cM h1
        obtain ⟨b', o', rfl, hc2⟩ := cN h2
        have e1 : (x : Int) + (y : Int) = (s : Int) := by have := HS.out; omega
        clear cM cN zM zN
        go_wp2_with (at_builtin; go_must (refine wpList_append_own _ rfl (.tmp 40) (.tmp 42) _ rfl w.heap.size 3 i0 _ 1 8 Try.underlying52 hi hz0 hz1 hz2 rfl (by omega) _ k _ rfl (hown.alloc _) ⟨wr.heap.size, 0, none⟩ 1 1 [.int .i64 (s : Int)] rfl rfl (news_one _ _ _) (by intro u hu; rw [List.mem_singleton.1 hu]; rfl) (by unfold maxLen; omega) (by omega) (by simp; omega) ?_); intro v' w4 hown4 hg4 hnil4)
        have hb4 := (hb.alloc hb.size (.cells #[.int .i64 (s : Int)] 3)).grown hg4 (by simp; omega) (fun x hx => (hown.lt x hx).1)
        clear e1 hg4 hnil4
        go_roundw
        case rel => exact ⟨k + 1, by omega, by go_num, by rw [HF.out]; exact hown4, hb4⟩
        case measure => simp [intOf] <;> omega
      · obtain ⟨b, o, rfl, hc1⟩ := cM h1
        have hy0 := zN (by omega)
        have e1 : x = s := by have := HS.out; omega
        subst e1
        clear cM cN zM zN
        have hkm : ¬ (k : Int) < (m : Int) := by omega
        go_wp2_with (at_builtin; go_must (refine wpList_append_own _ rfl (.tmp 40) (.tmp 42) _ rfl w.heap.size 3 i0 _ 1 8 Try.underlying52 hi hz0 hz1 hz2 rfl (by omega) _ k _ rfl (hown.alloc _) ⟨wr.heap.size, 0, none⟩ 1 1 [.int .i64 (x : Int)] rfl rfl (news_one _ _ _) (by intro u hu; rw [List.mem_singleton.1 hu]; rfl) (by unfold maxLen; omega) (by omega) (by simp; omega) ?_); intro v' w4 hown4 hg4 hnil4)
        have hb4 := (hb.alloc hb.size (.cells #[.int .i64 (x : Int)] 3)).grown hg4 (by simp; omega) (fun x hx => (hown.lt x hx).1)
        clear hg4 hnil4
        go_roundw
        case rel => exact ⟨k + 1, by omega, by go_num, by rw [HF.out]; exact hown4, hb4⟩
        case measure => simp [intOf] <;> omega
      · obtain ⟨b, o, rfl, hc2⟩ := cN h2
        have hx0 := zM (by omega)
        have e1 : y = s := by have := HS.out; omega
        subst e1
        clear cM cN zM zN
        have hkm : ¬ (k : Int) < (n : Int) := by omega
        go_wp2_with (at_builtin; go_must (refine wpList_append_own _ rfl (.tmp 40) (.tmp 42) _ rfl w.heap.size 3 i0 _ 1 8 Try.underlying52 hi hz0 hz1 hz2 rfl (by omega) _ k _ rfl (hown.alloc _) ⟨wr.heap.size, 0, none⟩ 1 1 [.int .i64 (y : Int)] rfl rfl (news_one _ _ _) (by intro u hu; rw [List.mem_singleton.1 hu]; rfl) (by unfold maxLen; omega) (by omega) (by simp; omega) ?_); intro v' w4 hown4 hg4 hnil4)
        have hb4 := (hb.alloc hb.size (.cells #[.int .i64 (y : Int)] 3)).grown hg4 (by simp; omega) (fun x hx => (hown.lt x hx).1)
        clear hg4 hnil4
        go_roundw
        case rel => exact ⟨k + 1, by omega, by go_num, by rw [HF.out]; exact hown4, hb4⟩
        case measure => simp [intOf] <;> omega
      · omega
    · have hk' : k = max n m := by omega
      have h1 : ¬ (k : Int) < (n : Int) := by omega
      have h2 : ¬ (k : Int) < (m : Int) := by omega
      obtain ⟨A', c', rfl, hc1, hc2⟩ := own_formI hown
      have hL := own_isL hown
      have hsum : M + N = N8.ofDigs (fun j => N8.dig M j + N8.dig N j) k := by
        rw [N8.ofDigs_add (N8.dig M) (N8.dig N), N8.ofDigs_dig, N8.ofDigs_dig, N8.mod_pw_of_lt (Nat.lt_of_lt_of_le hM.1 (N8.pw_mono (by omega))), N8.mod_pw_of_lt (Nat.lt_of_lt_of_le hN.1 (N8.pw_mono (by omega)))]
      have HC := Lib.hid (carried_any A' k c' _ wr hL (by omega) (fun j _ => by have := N8.dig_lt M j; have := N8.dig_lt N j; omega) (M + N) hsum)
      clear hown hsum hk' hL
      go_wp2_with (go_at_call 54; refine (HC.out).mono ?_; rintro e w5 ⟨A5, c5, rfl, hD5, h51, h52, hb5⟩)
      go_ret
      exact ⟨A5, c5, rfl, hD5, h51, h52, below_step hb hb5⟩
end Go.Proofs.Ytegbhenchmfngaa
