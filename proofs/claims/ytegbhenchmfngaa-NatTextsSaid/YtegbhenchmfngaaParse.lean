/- nat.isDecimal, nat.putGroup and nat.Parse. -/
import Derived.Test.YtegbhenchmfngaaMem
import Derived.Test.YtegbhenchmfngaaBase3
import Derived.Deep.DeepMust
namespace Go.Proofs.Ytegbhenchmfngaa
open Go.RowKit

/-- The text is what Decimal can answer. -/
def DecS (s : ByteArray) : Prop := 0 < s.size ∧ (∀ k (h : k < s.size), 48 ≤ s[k].toNat ∧ s[k].toNat ≤ 57) ∧ ∀ h : 0 < s.size, 1 < s.size → s[0].toNat ≠ 48
theorem size_toList (s : ByteArray) : s.toList = s.data.toList := ByteArray.toList_eq s
theorem len_data (s : ByteArray) : s.data.toList.length = s.size := Array.length_toList

set_option maxHeartbeats 400000 in
theorem isDecimal_empty (s : ByteArray) (w : World) (h : s.size = 0) :
    Calls Try.prog 60 #[.string s] w fun e w' => e = .returned (.bool false) ∧ w = w' := by
  have h1 : s.toList = [] := by
    rw [size_toList]; exact List.eq_nil_of_length_eq_zero (by rw [len_data]; exact h)
  go_enter Try.func60, Try.ntmps60
  go_wp2_with fail
  go_ret
  exact ⟨rfl, rfl⟩

set_option maxHeartbeats 400000 in
theorem isDecimal_nought (s : ByteArray) (w : World) (h : 1 < s.size) (h0 : s[0].toNat = 48) :
    Calls Try.prog 60 #[.string s] w fun e w' => e = .returned (.bool false) ∧ w = w' := by
  have h1 : ¬ s.toList = [] := fun e => by rw [size_toList] at e; have h' := len_data s; rw [e] at h'; simp at h'; omega
  have h2 : s.toList.isEmpty = false := by simpa using h1
  have h3 : 0 < s.size := by omega
  go_enter Try.func60, Try.ntmps60
  go_wp2_with fail
  go_ret
  exact ⟨rfl, rfl⟩

set_option maxHeartbeats 800000 in
theorem isDecimal_loop (s : ByteArray) (w : World) (hs : s.size ≤ 9223372036854775807) (h3 : 0 < s.size) (h0 : s.size = 1 ∨ s[0].toNat ≠ 48) (r : Bool) (hr : r = true ↔ DecS s) :
    Calls Try.prog 60 #[.string s] w fun e w' => e = .returned (.bool r) ∧ w = w' := by
  have h1 : ¬ s.toList = [] := fun e => by rw [size_toList] at e; have h' := len_data s; rw [e] at h'; simp at h'; omega
  have h2 : s.toList.isEmpty = false := by simpa using h1
  have H0 := Lib.hid h0
  have HR := Lib.hid hr
  have hcase : (s[0].toNat : Int) ≠ 48 ∨ (s[0].toNat : Int) = 48 ∧ (s.size : Int) ≤ 1 := by omega
  clear h0 hr
  rcases hcase with hc | ⟨hc1, hc2⟩
  all_goals
    go_enter Try.func60, Try.ntmps60
    go_wp2_with fail
    go_loop [18] (fun i => ∃ k : Nat, k ≤ s.size ∧ i = .int .i64 k ∧ Hid (∀ j (h : j < s.size), j < k → 48 ≤ s[j].toNat ∧ s[j].toNat ≤ 57)) (fun i => s.size - (intOf i).toNat)
    case atStart => exact ⟨0, Nat.zero_le _, rfl, fun j _ hj => absurd hj (by omega)⟩
    case round =>
      obtain ⟨k, hk, rfl, HA⟩ := hrel
      by_cases hlt : k < s.size
      · by_cases hlo : s[k].toNat < 48
        · have hloz : (s[k].toNat : Int) < 48 := by omega
          have hb : r = false := by
            cases r with
            | false => rfl
            | true => have := (HR.out.1 rfl).2.1 k hlt; omega
          have HBB := Lib.hid hb
          clear hb
          go_wp2_with fail
          go_ret
          exact ⟨ret_bool HBB.out.symm, rfl⟩
        · have hloz : ¬ (s[k].toNat : Int) < 48 := by omega
          by_cases hhi : 57 < s[k].toNat
          · have hhiz : 57 < (s[k].toNat : Int) := by omega
            have hb : r = false := by
              cases r with
              | false => rfl
              | true => have := (HR.out.1 rfl).2.1 k hlt; omega
            have HBB := Lib.hid hb
            clear hb
            go_wp2_with fail
            go_ret
            exact ⟨ret_bool HBB.out.symm, rfl⟩
          · have hhiz : ¬ 57 < (s[k].toNat : Int) := by omega
            go_wp2_with fail
            go_round
            case rel => exact ⟨k + 1, by omega, by go_num, fun j h hj => by
              by_cases e : j = k
              · subst e; omega
              · exact HA.out j h (by omega)⟩
            case measure => simp [intOf] <;> omega
      · have hk' : k = s.size := by omega
        have hb : r = true := HR.out.2 ⟨h3, fun j h => HA.out j h (by omega), fun _ h1 => by rcases H0.out with h | h <;> omega⟩
        have HBB := Lib.hid hb
        clear hb
        subst hk'
        go_wp2_with fail
        go_ret
        exact ⟨ret_bool HBB.out.symm, rfl⟩

theorem isDecimal_any (s : ByteArray) (w : World) (hs : s.size ≤ 9223372036854775807) (r : Bool) (hr : r = true ↔ DecS s) :
    Calls Try.prog 60 #[.string s] w fun e w' => e = .returned (.bool r) ∧ w = w' := by
  have hfalse : ¬ DecS s → r = false := fun h => by
    cases r with
    | false => rfl
    | true => exact absurd (hr.1 rfl) h
  rcases Nat.eq_zero_or_pos s.size with h | h
  · rw [hfalse (fun hd => by have := hd.1; omega)]
    exact isDecimal_empty s w h
  · by_cases h1 : 1 < s.size ∧ s[0].toNat = 48
    · rw [hfalse (fun hd => hd.2.2 h h1.1 h1.2)]
      exact isDecimal_nought s w h1.1 h1.2
    · exact isDecimal_loop s w hs h (by by_cases e : s.size = 1; exact .inl e; exact .inr (fun e' => h1 ⟨by omega, e'⟩)) r hr

theorem take_num (t : ByteArray) (k : Nat) (h : k < t.size) : Nt.numL (t.data.toList.take (k + 1)) = 10 * Nt.numL (t.data.toList.take k) + (t[k].toNat - 48) := by
  rw [List.take_succ_eq_append_getElem (by rw [len_data]; exact h), Nt.numL_snoc]; rfl
theorem dig_list (t : ByteArray) (hd : ∀ k (h : k < t.size), 48 ≤ t[k].toNat ∧ t[k].toNat ≤ 57) : ∀ c ∈ t.data.toList, Nt.isDig c := by
  intro c hc
  obtain ⟨i, hi, rfl⟩ := List.mem_iff_getElem.1 hc
  rw [len_data] at hi
  exact hd i hi
theorem pow9 {k : Nat} (h : k ≤ 9) : 10 ^ k ≤ 1000000000 := Nat.le_trans (Nat.pow_le_pow_right (by decide) h) (by decide)
theorem cells_succ (N n : Nat) : cellsOf N (n + 1) = cellsOf N n ++ [.int .u32 (Nt.dig N n : Int)] := by
  unfold cellsOf
  rw [List.range_succ, List.map_append]; rfl
theorem cells_congr {M N n : Nat} (h : ∀ j, j < n → Nt.dig M j = Nt.dig N j) : cellsOf M n = cellsOf N n := by
  unfold cellsOf
  refine List.map_congr_left fun j hj => ?_
  rw [h j (List.mem_range.1 hj)]
/-- An own slice, out of its row. -/
theorem own_of_rowIs {w : World} {B g cap n N : Nat} {G : Nat → Value} (hr : w.rowIs g 44 cap G) (hB : B ≤ g) (hn : n ≤ cap) (hc : cap ≤ maxLen) (hG : ∀ j, j < n → G j = .int .u32 (Nt.dig N j)) :
    w.ownsRow B 44 1 (.slice (some ⟨g, 0, none⟩) n cap) n (cellsOf N n) := by
  obtain ⟨c, hb, hs, hi⟩ := hr
  refine ⟨by simp [cellsOf], .inr ⟨g, cap, c, rfl, hB, hb, hn, hc, by omega, ?_⟩⟩
  refine List.ext_getElem? fun j => ?_
  rw [cellsOf_get, List.getElem?_take, Nat.mul_one]
  by_cases h : j < n
  · rw [if_pos h, if_pos h, Array.getElem?_toList, hi j (by omega), hG j h]
  · rw [if_neg h, if_neg h]
theorem row_of_own {w : World} {g cap n N : Nat} {cur : Array Value} (hb : w.heap[g]? = some (.cells cur 44 (0, 0))) (hs : cur.size = cap * 1) (ht : cur.toList.take (n * 1) = cellsOf N n) :
    ∃ G, w.rowIs g 44 cap G ∧ ∀ j, j < n → G j = .int .u32 (Nt.dig N j) := by
  refine ⟨fun j => (cur[j]?).getD undef, ⟨cur, hb, by omega, fun i hi => ?_⟩, fun j hj => ?_⟩
  · have hi' : i < cur.size := by omega
    show cur[i]? = some ((cur[i]?).getD undef)
    rw [Array.getElem?_eq_getElem hi']; rfl
  · have h1 : (cur.toList.take (n * 1))[j]? = some (.int .u32 (Nt.dig N j)) := by
      rw [ht, cellsOf_get, if_pos hj]
    rw [List.getElem?_take, if_pos (by omega), Array.getElem?_toList] at h1
    show (cur[j]?).getD undef = _
    rw [h1]; rfl
theorem own_nat {w : World} {B n N : Nat} {A : Option Addr} {c : Nat} (h : w.ownsRow B 44 1 (.slice A n c) n (cellsOf N n)) (hN : N < Nt.pw n) : IsNat w A n N ∧ n ≤ c ∧ c ≤ maxLen := by
  rcases h.2 with ⟨e, h0⟩ | ⟨g, cap, cur, e, _, hb, hn, hc, hs, ht⟩
  · cases e
    exact ⟨⟨hN, fun h => absurd h (by omega)⟩, Nat.le_refl _, by omega⟩
  · cases e
    obtain ⟨G, hr, hG⟩ := row_of_own hb hs ht
    exact ⟨⟨hN, fun _ => ⟨g, 0, rfl, fun j hj => by rw [Nat.zero_add, hr.cell (by omega), hG j hj]⟩⟩, hn, hc⟩

theorem own_form {w : World} {B e n : Nat} {v : Value} {xs : List Value} (h : w.ownsRow B e 1 v n xs) : ∃ A c, v = .slice A n c := by
  rcases h.2 with ⟨rfl, rfl⟩ | ⟨g, cap, _, rfl, _⟩
  · exact ⟨none, 0, rfl⟩
  · exact ⟨_, _, rfl⟩

set_option maxHeartbeats 1000000 in
theorem putGroup_nil (B : Nat) (t : ByteArray) (w : World) (hB : B ≤ w.heap.size) (ht : t.size ≤ 9) (hd : ∀ k (h : k < t.size), 48 ≤ t[k].toNat ∧ t[k].toNat ≤ 57) (T : Nat) (hT : T = Nt.numL t.data.toList) :
    Calls Try.prog 61 #[.slice none 0 0, .string t] w fun e w' => ∃ A c, e = .returned (.slice A (Nt.wlen T) c) ∧ w'.ownsRow B 44 1 (.slice A (Nt.wlen T) c) (Nt.wlen T) (cellsOf T (Nt.wlen T)) ∧ Below B w w' := by
  obtain ⟨i0, hi, hz0, hz1, hz2⟩ := info_parts info44
  have hdl := dig_list t hd
  have HT := Lib.hid hT
  clear hT
  go_enter Try.func61, Try.ntmps61
  go_wp2_with fail
  go_loop [5, 6, 11] (fun sz cy i => ∃ k p y : Nat, k ≤ t.size ∧ i = .int .i64 k ∧ sz = .int .u64 p ∧ cy = .int .u64 y ∧ Hid (p = 10 ^ k) ∧ Hid (y = Nt.numL (t.data.toList.take k))) (fun _ _ i => t.size - (intOf i).toNat)
  case atStart => exact ⟨0, 1, 0, Nat.zero_le _, rfl, rfl, rfl, show _ = _ by simp, show _ = _ by simp [Nt.numL]⟩
  case round =>
    obtain ⟨k, p, y, hk, rfl, rfl, rfl, HP, HY⟩ := hrel
    have hpb : p ≤ 1000000000 := by rw [HP.out]; exact pow9 (by omega)
    have hyb : y ≤ 1000000000 := by
      have := Nt.numL_lt (l := t.data.toList.take k) (fun c hc => hdl c (List.mem_of_mem_take hc))
      rw [← HY.out, List.length_take, len_data, Nat.min_eq_left hk] at this
      have := pow9 (show k ≤ 9 by omega)
      omega
    by_cases hlt : k < t.size
    · obtain ⟨hd1, hd2⟩ := hd k hlt
      have htn := take_num t k hlt
      have HTN := Lib.hid htn
      clear htn
      go_wp2_with fail
      go_round
      case rel => exact ⟨k + 1, p * 10, y * 10 + (t[k].toNat - 48), by omega, by go_num, by go_num, congrArg (Value.int .u64) (by omega), show _ = _ by rw [HP.out, Nat.pow_succ], show _ = _ by rw [HTN.out, HY.out]; omega⟩
      case measure => simp [intOf] <;> omega
    · have hk' : k = t.size := by omega
      have hyT : y = T := by rw [HY.out, HT.out, hk', List.take_of_length_le (by rw [len_data]; exact Nat.le_refl _)]
      subst hyT
      clear hk'
      go_wp2_with fail
      refine wp_loop_rounds 1 ?_
      rw [rounds_succ]
      by_cases h0 : y = 0
      · subst h0
        go_wp2_with fail
        go_ret
        exact ⟨none, 0, rfl, World.ownsRow_nil _ _ _ _, Below.refl _ _⟩
      · have hpos : (0 : Int) < (y : Int) := by omega
        have hw1 : Nt.wlen y = 1 := Nt.wlen_eq (n := 0) (by show y < 4294967296; omega) (by rw [Nt.pw_zero]; omega)
        have hdy : Nt.dig y 0 = y := by unfold Nt.dig; rw [Nt.pw_zero, Nat.div_one]; exact Nat.mod_eq_of_lt (by rw [Nt.K_eq]; omega)
        have HW := Lib.hid hw1
        have HD := Lib.hid hdy
        clear hw1 hdy
        go_wp2_with (at_builtin; go_must (refine wpList_append_own _ rfl (.tmp 49) (.tmp 52) _ rfl B 44 i0 _ 1 4 Try.underlying23 hi hz0 hz1 hz2 rfl (by omega) _ 0 [] rfl (World.ownsRow_nil _ _ _ _) ⟨w.heap.size, 0, none⟩ 1 1 [.int .u32 (y : Int)] rfl rfl (news_one _ _ _) (by intro u hu; rw [List.mem_singleton.1 hu]; rfl) (by unfold maxLen; omega) (by omega) (by simp; omega) ?_); intro v' w4 hown4 hg4 hnil4)
        obtain ⟨A4, c4, rfl⟩ := own_form hown4
        have hc : cellsOf y 1 = [.int .u32 (y : Int)] := by
          have := cells_succ y 0
          rw [HD.out] at this
          exact this
        have hb4 := ((Below.refl B w).alloc hB (.cells #[.int .u32 (y : Int)] 44)).grown hg4 (by simp; omega) (fun k hk => by cases hk)
        go_ret
        refine ⟨A4, c4, ?_, ?_, hb4⟩
        · rw [HW.out]; rfl
        · rw [HW.out, hc]; exact hown4

set_option maxHeartbeats 1000000 in
theorem putGroup_row (B : Nat) (g n cap N : Nat) (G : Nat → Value) (t : ByteArray) (w : World) (hr : w.rowIs g 44 cap G) (hG : ∀ j, j < n → G j = .int .u32 (Nt.dig N j)) (hBg : B ≤ g) (hn : n = Nt.wlen N) (hnc : n ≤ cap) (hcm : cap ≤ maxLen) (hnb : n ≤ 1099511627776) (ht : t.size ≤ 9) (hd : ∀ k (h : k < t.size), 48 ≤ t[k].toNat ∧ t[k].toNat ≤ 57) (T : Nat) (hT : T = N * 10 ^ t.size + Nt.numL t.data.toList) :
    Calls Try.prog 61 #[.slice (some ⟨g, 0, none⟩) n cap, .string t] w fun e w' => ∃ A c, e = .returned (.slice A (Nt.wlen T) c) ∧ w'.ownsRow B 44 1 (.slice A (Nt.wlen T) c) (Nt.wlen T) (cellsOf T (Nt.wlen T)) ∧ Below B w w' := by
  obtain ⟨i0, hi, hz0, hz1, hz2⟩ := info_parts info44
  have hdl := dig_list t hd
  have hNn : N < Nt.pw n := by rw [hn]; exact Nt.lt_pw_wlen N
  have HN := Lib.hid hn
  have HT := Lib.hid hT
  have hcz : cap ≤ 9223372036854775807 := hcm
  clear hT hn
  go_enter Try.func61, Try.ntmps61
  go_wp2_with fail
  go_loop [5, 6, 11] (fun sz cy i => ∃ k p y : Nat, k ≤ t.size ∧ i = .int .i64 k ∧ sz = .int .u64 p ∧ cy = .int .u64 y ∧ Hid (p = 10 ^ k) ∧ Hid (y = Nt.numL (t.data.toList.take k))) (fun _ _ i => t.size - (intOf i).toNat)
  case atStart => exact ⟨0, 1, 0, Nat.zero_le _, rfl, rfl, rfl, show _ = _ by simp, show _ = _ by simp [Nt.numL]⟩
  case round =>
    obtain ⟨k, p, y, hk, rfl, rfl, rfl, HP, HY⟩ := hrel
    have hpb : p ≤ 1000000000 := by rw [HP.out]; exact pow9 (by omega)
    have hyp : y < p := by
      have := Nt.numL_lt (l := t.data.toList.take k) (fun c hc => hdl c (List.mem_of_mem_take hc))
      rw [← HY.out, List.length_take, len_data, Nat.min_eq_left hk, ← HP.out] at this
      exact this
    by_cases hlt : k < t.size
    · obtain ⟨hd1, hd2⟩ := hd k hlt
      have htn := take_num t k hlt
      have HTN := Lib.hid htn
      clear htn
      go_wp2_with fail
      go_round
      case rel => exact ⟨k + 1, p * 10, y * 10 + (t[k].toNat - 48), by omega, by go_num, by go_num, congrArg (Value.int .u64) (by omega), show _ = _ by rw [HP.out, Nat.pow_succ], show _ = _ by rw [HTN.out, HY.out]; omega⟩
      case measure => simp [intOf] <;> omega
    · have hk' : k = t.size := by omega
      have hyT : y + N * p = T := by rw [HY.out, HP.out, HT.out, hk', List.take_of_length_le (by rw [len_data]; exact Nat.le_refl _)]; omega
      have HYT := Lib.hid hyT
      have hp1 : 1 ≤ p := by omega
      clear hk' hyT hd hdl
      go_wp2_with fail
      go_loopw [6, 27] (fun cy i wr => ∃ k z : Nat, k ≤ n ∧ i = .int .i64 k ∧ cy = .int .u64 z ∧ z < p ∧ Hid (z = Nt.grpT y N p k / Nt.pw k) ∧
        wr.rowIs g 44 cap (fun j => if j < k then .int .u32 (Nt.dig (Nt.grpT y N p k) j) else G j) ∧ Only g w wr) (fun _ i _ => n - (intOf i).toNat)
      case atStart => exact ⟨0, y, Nat.zero_le _, rfl, rfl, hyp, show _ = _ by rw [Nt.grpT_zero, Nt.pw_zero, Nat.div_one], hr.congr fun j _ => by rw [if_neg (by omega)], Only.refl _ _⟩
      case round =>
        obtain ⟨k, z, hk, rfl, rfl, hz, HZ, hrk, hok⟩ := hrel
        by_cases hlt : k < n
        · have h1 := hrk.cell (i := k) (by omega)
          rw [if_neg (by omega), hG k hlt] at h1
          have hf := hrk.frozen k
          have hdd := Nt.dig_lt N k
          obtain ⟨q1, q2, q3⟩ := Nt.grpT_next (c0 := y) (N := N) (W := p) (k := k) (s := z + Nt.dig N k * p) HZ.out.symm rfl
          generalize Nt.dig N k = x at *
          obtain ⟨m, hm⟩ : ∃ m : Nat, m = x * p := ⟨_, rfl⟩
          obtain ⟨s, hs⟩ : ∃ s : Nat, s = z + m := ⟨_, rfl⟩
          have hmz : (x : Int) * (p : Int) = (m : Int) := by rw [hm]; simp
          have hmb : m ≤ 4294967295 * 1000000000 := by rw [hm]; exact Nat.mul_le_mul (by omega) hpb
          have e3 : IntKind.u64.wrap ((x : Int) * (p : Int)) = (m : Int) := by rw [hmz]; exact IntWalk.u64_in _ (by omega)
          have hszc : s / 4294967296 < p := by
            refine Nat.div_lt_of_lt_mul ?_
            have h4 : (x + 1) * p ≤ 4294967296 * p := Nat.mul_le_mul_right _ hdd
            rw [Nat.add_mul, Nat.one_mul, ← hm] at h4
            omega
          have e4 : (z : Int) + (m : Int) = (s : Int) := by omega
          have hsb : s ≤ 18446744073709551615 := by omega
          rw [← hm, ← hs] at q1 q2
          have Q1 := Lib.hid q1
          have Q2 := Lib.hid q2
          have Q3 := Lib.hid q3
          clear q1 q2 q3 hm hs hmz
          go_wp2_with fail
          clear e3 e4
          go_roundw
          case rel =>
            have ev : (s : Int) % 4294967296 = ((s % 4294967296 : Nat) : Int) := by omega
            rw [ev]
            refine ⟨k + 1, s / 4294967296, by omega, by go_num, by go_num, hszc, show _ = _ by rw [Q1.out, Nt.K_eq], (hrk.set k _).congr fun j _ => ?_, hok.set_ _ _⟩
            by_cases e : j = k
            · subst e
              rw [if_pos rfl, if_pos (by omega), Q2.out, Nt.K_eq]
            · rw [if_neg e]
              by_cases h : j < k
              · rw [if_pos h, if_pos (by omega), Q3.out _ h]
              · rw [if_neg h, if_neg (by omega)]
          case measure => simp [intOf] <;> omega
        · have hk' : k = n := by omega
          have hfull : Nt.grpT y N p k = T := by rw [hk', Nt.grpT_full hNn]; exact HYT.out
          rw [hfull] at hrk HZ
          subst hk'
          have hown := own_of_rowIs (N := T) hrk hBg hnc hcm (fun j hj => if_pos hj)
          have hzK : z < 4294967296 := by omega
          have hTl : T < Nt.pw (k + 1) := by
            rw [Nt.pw_succ, Nat.mul_comm]
            refine (Nat.div_lt_iff_lt_mul (Nt.pw_pos k)).1 ?_
            have := HZ.out
            rw [Nt.K_eq]; omega
          have hdT : Nt.dig T k = z := by
            have := HZ.out
            rw [this]
            exact Nat.mod_eq_of_lt (by rw [← this, Nt.K_eq]; exact hzK)
          have hbw := hok.below (Below.refl B w) hBg
          by_cases h0 : z = 0
          · have hTw : Nt.wlen T = k := by
              have h1 : T < Nt.pw k := Nt.lt_pw_of_dig hTl (by rw [hdT, h0])
              have h2 : N * 1 ≤ N * p := Nat.mul_le_mul_left _ hp1
              have h3 : Nt.wlen N ≤ Nt.wlen T := Nt.wlen_mono (by have := HYT.out; omega)
              have h4 := Nt.wlen_le h1
              have h5 := HN.out
              omega
            have HTW := Lib.hid hTw
            have HO := Lib.hid hown
            subst h0
            clear hTw hown hfull hdT hTl HZ
            go_wp2_with fail
            go_ret
            refine ⟨_, cap, ret_slice HTW.out.symm, ?_, hbw⟩
            rw [HTW.out]; exact HO.out
          · have hTw : Nt.wlen T = k + 1 := Nt.wlen_eq hTl (Nt.le_of_dig (by rw [hdT]; exact h0))
            have hpos : (0 : Int) < (z : Int) := by omega
            have HTW := Lib.hid hTw
            have HD := Lib.hid hdT
            clear hTw hfull hdT hTl HZ
            go_wp2_with (at_builtin; go_must (refine wpList_append_own _ rfl (.tmp 49) (.tmp 52) _ rfl B 44 i0 _ 1 4 Try.underlying23 hi hz0 hz1 hz2 rfl (by omega) _ k (cellsOf T k) rfl (hown.alloc _) ⟨wr.heap.size, 0, none⟩ 1 1 [.int .u32 (z : Int)] rfl rfl (news_one _ _ _) (by intro u hu; rw [List.mem_singleton.1 hu]; rfl) (by unfold maxLen; omega) (by omega) (by have := hok.size; have := hr.lt; simp; omega) ?_); intro v' w4 hown4 hg4 hnil4)
            obtain ⟨A4, c4, rfl⟩ := own_form hown4
            have hc : cellsOf T (k + 1) = cellsOf T k ++ [.int .u32 (z : Int)] := by rw [cells_succ, HD.out]
            have hBw : B ≤ wr.heap.size := by have := hok.size; have := hr.lt; omega
            have hb4 := (hbw.alloc hBw (.cells #[.int .u32 (z : Int)] 44)).grown hg4 (Nat.le_trans hBw (by simp)) (fun x hx => by cases hx; exact hBg)
            go_ret
            refine ⟨A4, c4, ?_, ?_, hb4⟩
            · rw [HTW.out]; rfl
            · rw [HTW.out, hc]; exact hown4

/-- A group of digits more. -/
theorem putGroup_any (B : Nat) (A : Option Addr) (c N : Nat) (t : ByteArray) (w : World) (hown : w.ownsRow B 44 1 (.slice A (Nt.wlen N) c) (Nt.wlen N) (cellsOf N (Nt.wlen N))) (hB : B ≤ w.heap.size) (hnb : Nt.wlen N ≤ 1099511627776) (ht : t.size ≤ 9) (hd : ∀ k (h : k < t.size), 48 ≤ t[k].toNat ∧ t[k].toNat ≤ 57) (T : Nat) (hT : T = N * 10 ^ t.size + Nt.numL t.data.toList) :
    Calls Try.prog 61 #[.slice A (Nt.wlen N) c, .string t] w fun e w' => ∃ A c, e = .returned (.slice A (Nt.wlen T) c) ∧ w'.ownsRow B 44 1 (.slice A (Nt.wlen T) c) (Nt.wlen T) (cellsOf T (Nt.wlen T)) ∧ Below B w w' := by
  rcases hown.2 with ⟨e, h0⟩ | ⟨g, cap, cur, e, hBg, hb, hn, hc, hs, htk⟩
  · have hN0 := Nt.wlen_eq_zero.1 h0
    subst hN0
    cases e
    exact putGroup_nil B t w hB ht hd T (by rw [hT, Nat.zero_mul, Nat.zero_add])
  · cases e
    obtain ⟨G, hr, hG⟩ := row_of_own hb hs htk
    exact putGroup_row B g _ c N G t w hr hG hBg rfl hn hc hnb ht hd T hT

set_option maxHeartbeats 400000 in
theorem parse_no (s : ByteArray) (w : World) (hs : s.size ≤ 9223372036854775807) (h : ¬ DecS s) :
    Calls Try.prog 35 #[.string s] w fun e w' => e = .returned (.tuple #[.slice none 0 0, .int .i64 3]) ∧ w = w' := by
  have HD := isDecimal_any s w hs false ⟨(fun e => by cases e), (fun hd => absurd hd h)⟩
  clear h
  go_enter Try.func35, Try.ntmps35
  go_wp2_with (go_at_call 60; refine HD.mono ?_; rintro e w' ⟨rfl, rfl⟩)
  go_ret2
  exact ⟨rfl, rfl⟩

theorem ext_list (s : ByteArray) (a b : Nat) : (s.extract a b).data.toList = (s.data.toList.drop a).take (b - a) := by simp
theorem ext_size (s : ByteArray) (a b : Nat) : (s.extract a b).size = min b s.size - a := by simp
theorem idx_dig (t : ByteArray) (h : ∀ c ∈ t.data.toList, Nt.isDig c) : ∀ k (h : k < t.size), 48 ≤ t[k].toNat ∧ t[k].toNat ≤ 57 := fun k hk =>
  h t[k] (List.mem_iff_getElem.2 ⟨k, by rw [len_data]; exact hk, rfl⟩)
theorem dec_wlen {l : List UInt8} {N k : Nat} (hl : ∀ c ∈ l, Nt.isDig c) (hN : N = Nt.numL l) (hk : l.length ≤ k) : Nt.wlen N ≤ k := by
  refine Nt.wlen_le ?_
  rw [hN]
  have h1 := Nt.numL_lt hl
  have h2 : 10 ^ l.length ≤ 10 ^ k := Nat.pow_le_pow_right (by decide) hk
  have h3 : 10 ^ k ≤ Nt.pw k := Nat.pow_le_pow_left (by decide) k
  omega

def lenS : Value → Nat
  | .string s => s.size
  | _ => 0

set_option maxHeartbeats 1000000 in
theorem parse_yes (s : ByteArray) (w : World) (hs : s.size ≤ 1000000) (h : DecS s) (T : Nat) (hT : T = Nt.numL s.data.toList) :
    Calls Try.prog 35 #[.string s] w fun e w' => ∃ A c, e = .returned (.tuple #[.slice A (Nt.wlen T) c, .int .i64 0]) ∧ IsNat w' A (Nt.wlen T) T ∧ Nt.wlen T ≤ c ∧ c ≤ 9223372036854775807 ∧ Below w.heap.size w w' := by
  have HD := isDecimal_any s w (by omega) true ⟨fun _ => h, fun _ => rfl⟩
  have HV := Lib.hid h
  have HT := Lib.hid hT
  clear h hT
  go_enter Try.func35, Try.ntmps35
  go_wp2_with (go_at_call 60; refine HD.mono ?_; rintro e w' ⟨rfl, rfl⟩)
  clear HD
  go_loopw [0, 4] (fun sv v wr => ∃ (r : ByteArray) (A : Option Addr) (c N : Nat), sv = .string r ∧ v = .slice A (Nt.wlen N) c ∧ r.size ≤ s.size ∧ Hid (r.data.toList = s.data.toList.drop (s.size - r.size)) ∧ Hid (N = Nt.numL (s.data.toList.take (s.size - r.size))) ∧
    wr.ownsRow w.heap.size 44 1 (.slice A (Nt.wlen N) c) (Nt.wlen N) (cellsOf N (Nt.wlen N)) ∧ Below w.heap.size w wr) (fun sv _ _ => lenS sv)
  case atStart => exact ⟨s, none, 0, 0, rfl, rfl, Nat.le_refl _, show _ = _ by simp, show _ = _ by simp [Nt.numL], World.ownsRow_nil _ _ _ _, Below.refl _ _⟩
  case round =>
    obtain ⟨r, A, c, N, rfl, rfl, hrs, HR, HN, hown, hb⟩ := hrel
    have hall := dig_list s HV.out.2.1
    have hwb : Nt.wlen N ≤ 1000000 := dec_wlen (fun c hc => hall c (List.mem_of_mem_take hc)) HN.out (by rw [List.length_take, len_data]; omega)
    have hBw := hb.size
    by_cases h9 : 9 ≤ r.size
    · have ht9 : (r.extract 0 9).size = 9 := by rw [ext_size]; omega
      have hr9 : (r.extract 9 r.size).size = r.size - 9 := by rw [ext_size]; omega
      have hlist : (r.extract 0 9).data.toList = (s.data.toList.drop (s.size - r.size)).take 9 := by rw [ext_list, HR.out, List.drop_zero]
      have hrl : (r.extract 9 r.size).data.toList = s.data.toList.drop (s.size - (r.size - 9)) := by
        rw [ext_list, HR.out, List.drop_drop, List.take_of_length_le (by simp; omega)]
        congr 1
        omega
      have hnum : N * 10 ^ 9 + Nt.numL (r.extract 0 9).data.toList = Nt.numL (s.data.toList.take (s.size - (r.size - 9))) := by
        rw [hlist, show s.size - (r.size - 9) = s.size - r.size + 9 by omega, List.take_add, Nt.numL_append, HN.out]
        congr 2
        rw [List.length_take, List.length_drop, len_data]
        congr 1
        omega
      obtain ⟨T', hT'⟩ : ∃ T', T' = Nt.numL (s.data.toList.take (s.size - (r.size - 9))) := ⟨_, rfl⟩
      have HT' := Lib.hid hT'
      have hPG := Lib.hid (putGroup_any w.heap.size A c N (r.extract 0 9) wr hown hBw (by omega) (by omega) (idx_dig _ (fun c hc => hall c (by rw [hlist] at hc; exact List.mem_of_mem_drop (List.mem_of_mem_take hc)))) T' (by rw [ht9, hnum, hT']))
      have HRL := Lib.hid hrl
      have HR9 := Lib.hid hr9
      clear hlist hrl hnum ht9 hr9 hall hT'
      go_wp2_with fail
      refine (hPG.out).mono ?_
      rintro e w2 ⟨A2, c2, rfl, hown2, hb2⟩
      clear hPG
      go_wp2_with fail
      go_roundw
      case rel => exact ⟨_, A2, c2, T', rfl, rfl, by rw [HR9.out]; omega, show _ = _ by rw [HRL.out, HR9.out], show _ = _ by rw [HT'.out, HR9.out], hown2, hb.trans hb2⟩
      case measure => simp only [lenS]; rw [HR9.out]; omega
    · by_cases h0 : r.size = 0
      · have hN : N = T := by
          rw [HN.out, HT.out, h0, Nat.sub_zero, List.take_of_length_le (by rw [len_data]; exact Nat.le_refl _)]
        subst hN
        have hnat := own_nat hown (Nt.lt_pw_wlen N)
        have hz : ¬ 0 < r.size := by omega
        go_wp2_with fail
        go_ret2
        exact ⟨A, c, rfl, hnat.1, hnat.2.1, hnat.2.2, hb⟩
      · have hpos : 0 < r.size := by omega
        have hl9 : r.size < 9 := by omega
        have hnum : N * 10 ^ r.size + Nt.numL r.data.toList = T := by
          rw [HT.out]
          conv => rhs; rw [← List.take_append_drop (s.size - r.size) s.data.toList]
          rw [Nt.numL_append, ← HN.out, ← HR.out, len_data]
        have hPG := Lib.hid (putGroup_any w.heap.size A c N r wr hown hBw (by omega) (by omega) (idx_dig _ (fun c hc => hall c (by rw [HR.out] at hc; exact List.mem_of_mem_drop hc))) T hnum.symm)
        clear hnum hall
        go_wp2_with fail
        refine (hPG.out).mono ?_
        rintro e w2 ⟨A2, c2, rfl, hown2, hb2⟩
        clear hPG
        go_wp2_with fail
        go_roundw
        case rel => exact ⟨ByteArray.empty, A2, c2, T, rfl, rfl, Nat.zero_le _, show _ = _ by rw [List.drop_of_length_le (by rw [len_data]; exact Nat.le_refl _)]; rfl, show _ = _ by rw [HT.out, List.take_of_length_le (by rw [len_data]; exact Nat.le_refl _)], hown2, hb.trans hb2⟩
        case measure => exact hpos
end Go.Proofs.Ytegbhenchmfngaa
