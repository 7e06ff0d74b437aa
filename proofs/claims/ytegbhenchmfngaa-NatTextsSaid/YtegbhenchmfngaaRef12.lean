/- The document's Parse. -/
import Derived.Test.YtegbhenchmfngaaRef11
namespace Go.Proofs.Ytegbhenchmfngaa
open Go.RowKit

set_option maxHeartbeats 400000 in
theorem rparse_empty (s : ByteArray) (w : World) (h : s.size = 0) :
    Calls Try.prog 36 #[.string s] w fun e w' => e = .returned (.tuple #[.slice none 0 0, .int .i64 3]) ∧ w = w' := by
  have h1 : s.toList = [] := by
    rw [size_toList]; exact List.eq_nil_of_length_eq_zero (by rw [len_data]; exact h)
  go_enter Try.func36, Try.ntmps36
  go_wp2_with fail
  go_ret2
  exact ⟨rfl, rfl⟩

set_option maxHeartbeats 400000 in
theorem rparse_nought (s : ByteArray) (w : World) (h : 1 < s.size) (h0 : s[0].toNat = 48) :
    Calls Try.prog 36 #[.string s] w fun e w' => e = .returned (.tuple #[.slice none 0 0, .int .i64 3]) ∧ w = w' := by
  have h1 : ¬ s.size = 0 := by omega
  have h3 : 0 < s.size := by omega
  go_enter Try.func36, Try.ntmps36
  go_wp2_with fail
  go_ret2
  exact ⟨rfl, rfl⟩

set_option maxHeartbeats 1000000 in
theorem rparse_bad (s : ByteArray) (w : World) (hs : s.size ≤ 9223372036854775807) (h3 : 0 < s.size) (h0 : s.size = 1 ∨ s[0].toNat ≠ 48) (hbad : ¬ ∀ j (h : j < s.size), 48 ≤ s[j].toNat ∧ s[j].toNat ≤ 57) :
    Calls Try.prog 36 #[.string s] w fun e w' => e = .returned (.tuple #[.slice none 0 0, .int .i64 3]) ∧ w = w' := by
  have h1 : ¬ s.size = 0 := by omega
  have HBAD := Lib.hid hbad
  have hs0 : ((s.size : Int) == 0) = false := beq_eq_false_iff_ne.2 (by omega)
  have hcase : (1 : Int) < (s.size : Int) ∧ ((s[0].toNat : Int) == 48) = false ∨ ¬ (1 : Int) < (s.size : Int) := by
    by_cases h : (1 : Int) < (s.size : Int)
    · exact .inl ⟨h, beq_eq_false_iff_ne.2 (by omega)⟩
    · exact .inr h
  clear h0 hbad
  rcases hcase with ⟨hc1, hc⟩ | hc
  all_goals
    go_enter Try.func36, Try.ntmps36
    go_wp2_with fail
    go_loop [5] (fun i => ∃ k : Nat, k ≤ s.size ∧ i = .int .i64 k ∧ Hid (∀ j (h : j < s.size), j < k → 48 ≤ s[j].toNat ∧ s[j].toNat ≤ 57)) (fun i => s.size - (intOf i).toNat)
    case atStart => exact ⟨0, Nat.zero_le _, rfl, fun j _ hj => absurd hj (by omega)⟩
    case round =>
      obtain ⟨k, hk, rfl, HA⟩ := hrel
      have hlt : k < s.size := by
        rcases Nat.lt_or_ge k s.size with h | h
        · exact h
        · exact absurd (fun j hj => HA.out j hj (by omega)) HBAD.out
      by_cases hlo : s[k].toNat < 48
      · have hloz : (s[k].toNat : Int) < 48 := by omega
        go_wp2_with fail
        go_ret2
        exact ⟨rfl, rfl⟩
      · have hloz : ¬ (s[k].toNat : Int) < 48 := by omega
        by_cases hhi : 57 < s[k].toNat
        · have hhiz : 57 < (s[k].toNat : Int) := by omega
          go_wp2_with fail
          go_ret2
          exact ⟨rfl, rfl⟩
        · have hhiz : ¬ 57 < (s[k].toNat : Int) := by omega
          go_wp2_with fail
          go_round
          case rel => exact ⟨k + 1, by omega, by go_num, fun j h hj => by
            by_cases e : j = k
            · subst e; omega
            · exact HA.out j h (by omega)⟩
          case measure => simp [intOf] <;> omega

theorem rparse_no (s : ByteArray) (w : World) (hs : s.size ≤ 9223372036854775807) (h : ¬ DecS s) :
    Calls Try.prog 36 #[.string s] w fun e w' => e = .returned (.tuple #[.slice none 0 0, .int .i64 3]) ∧ w = w' := by
  rcases Nat.eq_zero_or_pos s.size with h0 | h0
  · exact rparse_empty s w h0
  · by_cases h1 : 1 < s.size ∧ s[0].toNat = 48
    · exact rparse_nought s w h1.1 h1.2
    · have h2 : s.size = 1 ∨ s[0].toNat ≠ 48 := by by_cases e : s.size = 1; exact .inl e; exact .inr (fun e' => h1 ⟨by omega, e'⟩)
      exact rparse_bad s w hs h0 h2 fun hd => h ⟨h0, fun k hk => hd k hk, fun _ h4 => by rcases h2 with h | h <;> omega⟩

theorem one_digit' (w : World) (b : Nat) (hb : b < 256) : IsD (w.alloc (.cells #[.int .i64 (b : Int)] 3)) (some ⟨w.heap.size, 0, none⟩) 1 b := by
  refine ⟨by rw [show N8.pw 1 = 256 from rfl]; omega, fun _ => ⟨_, 0, rfl, fun j hj => ?_⟩⟩
  obtain rfl : j = 0 := by omega
  have e : N8.dig b 0 = b := by
    unfold N8.dig
    rw [N8.pw_zero, Nat.div_one, N8.K_eq]
    omega
  rw [e, World.cell?_alloc_at _ _ _ _ rfl]
  rfl
namespace N8
theorem ofDigs_mul (f : Nat → Nat) (c : Nat) : ∀ n, ofDigs (fun j => c * f j) n = c * ofDigs f n
  | 0 => rfl
  | n + 1 => by
    simp only [ofDigs]
    rw [ofDigs_mul f c n, Nat.mul_add, Nat.mul_assoc]
theorem ten_digs {N b n : Nat} (hN : N < pw n) (hb : b < 256) : 10 * N + b = ofDigs (fun j => 10 * dig N j + dig b j) (max n 1) := by
  rw [ofDigs_add (fun j => 10 * dig N j) (dig b), ofDigs_mul, ofDigs_dig, ofDigs_dig, mod_pw_of_lt (Nat.lt_of_lt_of_le hN (pw_mono (by omega))), mod_pw_of_lt]
  exact Nat.lt_of_lt_of_le (show b < pw 1 from hb) (pw_mono (by omega))
end N8
theorem dec_wlen8 {l : List UInt8} {N k : Nat} (hl : ∀ c ∈ l, Nt.isDig c) (hN : N = Nt.numL l) (hk : l.length ≤ k) : N8.wlen N ≤ k := by
  refine N8.wlen_le ?_
  rw [hN]
  have h1 := Nt.numL_lt hl
  have h2 : 10 ^ l.length ≤ 10 ^ k := Nat.pow_le_pow_right (by decide) hk
  have h3 : 10 ^ k ≤ N8.pw k := Nat.pow_le_pow_left (by decide) _
  omega

set_option maxHeartbeats 2000000 in
theorem rparse_yes (s : ByteArray) (w : World) (hs : s.size ≤ 1000) (h : DecS s) (T : Nat) (hT : T = Nt.numL s.data.toList) :
    Calls Try.prog 36 #[.string s] w fun e w' => ∃ A c, e = .returned (.tuple #[.slice A (Nt.wlen T) c, .int .i64 0]) ∧ IsNat w' A (Nt.wlen T) T ∧ Below w.heap.size w w' := by
  obtain ⟨h3, hd, h4⟩ := h
  have h1 : ¬ s.size = 0 := by omega
  have h4 := h4 h3
  have hs0 : ((s.size : Int) == 0) = false := beq_eq_false_iff_ne.2 (by omega)
  have hcase : (1 : Int) < (s.size : Int) ∧ ((s[0].toNat : Int) == 48) = false ∨ ¬ (1 : Int) < (s.size : Int) := by
    by_cases h : (1 : Int) < (s.size : Int)
    · exact .inl ⟨h, beq_eq_false_iff_ne.2 (by omega)⟩
    · exact .inr h
  have HD := Lib.hid hd
  have HT := Lib.hid hT
  clear h4 hd hT
  rcases hcase with ⟨hc1, hc⟩ | hc
  all_goals
    go_enter Try.func36, Try.ntmps36
    go_wp2_with fail
    go_loop [5] (fun i => ∃ k : Nat, k ≤ s.size ∧ i = .int .i64 k) (fun i => s.size - (intOf i).toNat)
    case atStart => exact ⟨0, Nat.zero_le _, rfl⟩
    case round =>
      obtain ⟨k, hk, rfl⟩ := hrel
      by_cases hlt : k < s.size
      · have hb := HD.out k hlt
        have hloz : ¬ (s[k].toNat : Int) < 48 := by omega
        have hhiz : ¬ 57 < (s[k].toNat : Int) := by omega
        go_wp2_with fail
        go_round
        case rel => exact ⟨k + 1, by omega, by go_num⟩
        case measure => simp [intOf] <;> omega
      · have hk' : k = s.size := by omega
        subst hk'
        go_wp2_with fail
        go_loopw [4, 6] (fun v i wr => ∃ k N : Nat, i = .int .i64 k ∧ k ≤ s.size ∧ Hid (N = Nt.numL (s.data.toList.take k)) ∧ N8.wlen N ≤ 1000 ∧
          wr.ownsRow w.heap.size 3 1 v (N8.wlen N) (ints (N8.dig N) (N8.wlen N)) ∧ Below w.heap.size w wr) (fun _ i _ => s.size - (intOf i).toNat)
        case atStart => exact ⟨0, 0, rfl, Nat.zero_le _, rfl, by rw [N8.wlen_zero]; omega, World.ownsRow_nil _ _ _ _, Below.refl _ _⟩
        case round =>
          obtain ⟨k, N, rfl, hk, HN, hl8, hown, hb⟩ := hrel
          obtain ⟨A, c, rfl, hlc, hcm⟩ := own_formI hown
          by_cases hlt : k < s.size
          · have hbd := HD.out k hlt
            have htn := take_num s k hlt
            rw [← HN.out] at htn
            have hwl : N8.wlen (Nt.numL (s.data.toList.take (k + 1))) ≤ 1000 :=
              dec_wlen8 (l := s.data.toList.take (k + 1)) (fun c hc => dig_list s HD.out c (List.mem_of_mem_take hc)) rfl (by rw [List.length_take, len_data]; omega)
            have HNL := N8.lt_pw_wlen N
            generalize hNk : Nt.numL (s.data.toList.take (k + 1)) = N' at *
            have hZ : ∀ t, N8.wlen N ≤ t → N8.dig N t = 0 := fun t ht => N8.dig_of_lt (Nat.lt_of_lt_of_le HNL (N8.pw_mono ht))
            generalize hL : N8.wlen N = L at *
            obtain ⟨b, hb'⟩ : ∃ b, b = s[k].toNat - 48 := ⟨_, rfl⟩
            rw [← hb'] at htn
            have hb9 : b < 10 := by omega
            have hbi : (s[k].toNat : Int) - 48 = (b : Int) := by omega
            have hten := N8.ten_digs HNL (show b < 256 by omega)
            rw [← htn] at hten
            have HTEN := Lib.hid hten
            have HNK := Lib.hid hNk
            have HZ := Lib.hid hZ
            clear hten hNk hZ htn hb' hL
            go_wp2_with fail
            go_loopw [7] (fun kk wi => ∃ j : Nat, j ≤ L ∧ kk = .int .i64 j ∧ wi.ownsRow w.heap.size 3 1 (.slice A L c) L (ints (fun t => if t < j then 10 * N8.dig N t else N8.dig N t) L) ∧ Below w.heap.size w wi) (fun kk _ => L - (intOf kk).toNat)
            case atStart => exact ⟨0, Nat.zero_le _, rfl, by rw [ints_congr (g := N8.dig N) fun t _ => if_neg (by omega)]; exact hown, hb⟩
            case round =>
              clear hown hb
              obtain ⟨j, hj, rfl, hown, hb⟩ := hrel
              by_cases hlt2 : j < L
              · obtain ⟨g, cap, e, hg, _, _⟩ := own_some hown (by omega)
                cases e
                have s1 := hown.cellAt j (by omega)
                rw [ints_get, if_pos hlt2, if_neg (by omega)] at s1
                have s2 := hown.frozenAt j
                have hd9 := N8.dig_lt N j
                have HSET := Lib.hid (ints_step (N8.dig N) (fun t => 10 * N8.dig N t) L j)
                have hst := fun v => (hown.stored j (.int .i64 v)).1
                have HST := Lib.hid hst
                clear hst
                generalize N8.dig N j = d at *
                go_wp2_with fail
                go_roundw
                case rel =>
                  have h9 := HST.out ((10 * d : Nat) : Int)
                  rw [HSET.out] at h9
                  exact ⟨j + 1, by omega, by go_num, by simpa using h9, hb.setCell hg _⟩
                case measure => simp [intOf] <;> omega
              · have hj' : j = L := by omega
                subst hj'
                rw [ints_congr (g := fun t => 10 * N8.dig N t) fun t ht => if_pos ht] at hown
                have hBw := hb.size
                have hLs := own_isL (hown.alloc (.cells #[.int .i64 (b : Int)] 3))
                have hOD := one_digit' wr b (by omega)
                have HP := Lib.hid (plus_gen A _ j c 1 1 (fun t => 10 * N8.dig N t) (N8.dig b) _ hLs hOD.2 (fun t ht => by rw [HZ.out t ht]) (fun t ht => N8.dig_of_lt (Nat.lt_of_lt_of_le (show b < N8.pw 1 from Nat.lt_trans hb9 (by decide)) (N8.pw_mono ht)))
                  (fun t => by have := N8.dig_lt N t; omega) (fun t => by have := N8.dig_lt b t; omega) (by omega) (by omega) N' HTEN.out)
                have HNN : Hid (N' = N8.ofDigs (N8.dig N') (N8.wlen N')) := show _ = _ by rw [N8.ofDigs_dig, N8.mod_pw_of_lt (N8.lt_pw_wlen N')]
                clear hown hLs hOD
                go_wp2_with fail
                refine (HP.out).mono ?_
                rintro e w3 ⟨A3, c3, rfl, hD3, hc31, hc32, hb3⟩
                go_wp2_with fail
                refine (carried_own A3 _ c3 (N8.dig N') _ hD3.2 (by omega) (fun t _ => by have := N8.dig_lt N' t; omega) N' HNN.out).mono ?_
                rintro e w4 ⟨A4, c4, rfl, hown4, hD4, hc41, hc42, hb4⟩
                have hb5 := below_step (below_step (below_alloc hb _) hb3) hb4
                have hbs := (below_step (below_alloc hb (.cells #[.int .i64 (b : Int)] 3)) hb3).size
                have hown5 := own_base hown4 hbs
                go_wp2_with fail
                go_roundw
                case rel => exact ⟨k + 1, N', by go_num, by omega, HNK.out.symm, hwl, hown5, hb5⟩
                case measure => simp [intOf] <;> omega
          · have hk' : k = s.size := by omega
            subst hk'
            have hN : N = T := by rw [HN.out, HT.out, List.take_of_length_le (by rw [len_data]; exact Nat.le_refl _)]
            subst hN
            have hD : IsD wr A (N8.wlen N) N := ⟨N8.lt_pw_wlen N, own_isL hown⟩
            clear hown
            go_wp2_with fail
            refine (words_any A _ c N _ hD hlc hcm (by omega)).mono ?_
            rintro e w5 ⟨A5, c5, rfl, hR5, hf1, hf2, hb5⟩
            go_wp2_with fail
            go_ret2
            exact ⟨A5, c5, rfl, hR5, below_step hb hb5⟩
end Go.Proofs.Ytegbhenchmfngaa
