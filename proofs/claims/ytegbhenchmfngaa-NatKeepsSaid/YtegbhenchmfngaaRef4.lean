/- The words of digits. -/
import Derived.Test.YtegbhenchmfngaaRef3
import Derived.Test.YtegbhenchmfngaaOf
import Derived.Laws.OwnMore
namespace Go.Proofs.Ytegbhenchmfngaa
open Go.RowKit

theorem cellsOf_succ (N n : Nat) : cellsOf N (n + 1) = cellsOf N n ++ [.int .u32 (Nt.dig N n : Int)] := by
  unfold cellsOf
  rw [List.range_succ, List.map_append]; rfl
theorem cellsOf_congr {M N n : Nat} (h : ∀ j, j < n → Nt.dig M j = Nt.dig N j) : cellsOf M n = cellsOf N n := by
  unfold cellsOf
  refine List.map_congr_left fun j hj => ?_
  rw [h j (List.mem_range.1 hj)]
theorem cellsOf_set {M N n : Nat} (h : ∀ j, j < n → Nt.dig M j = Nt.dig N j) (v : Value) (e : v = .int .u32 (Nt.dig M n : Int)) (u : Value) : (cellsOf N n ++ [u]).set n v = cellsOf M (n + 1) := by
  rw [cellsOf_succ, cellsOf_congr h, e]
  have hl : (cellsOf N n).length = n := by simp [cellsOf]
  rw [List.set_append_right _ _ (by omega), hl, Nat.sub_self]; rfl
theorem own_some {w : World} {B e n : Nat} {v : Value} {xs : List Value} (h : w.ownsRow B e 1 v n xs) (hn : 0 < n) : ∃ g c, v = .slice (some ⟨g, 0, none⟩) n c ∧ B ≤ g ∧ n ≤ c ∧ c ≤ 9223372036854775807 := by
  rcases h.2 with ⟨_, h0⟩ | ⟨g, cap, _, rfl, hB, _, h1, h2, _⟩
  · omega
  · exact ⟨g, cap, rfl, hB, h1, h2⟩
theorem own_isNat {w : World} {B n c N : Nat} {A : Option Addr} (h : w.ownsRow B 44 1 (.slice A n c) n (cellsOf N n)) (hN : N < Nt.pw n) : IsNat w A n N := by
  refine ⟨hN, fun hn => ?_⟩
  rcases h.2 with ⟨_, h0⟩ | ⟨g, cap, cur, e, _, hb, hnc, hc, hs, ht⟩
  · omega
  · cases e
    refine ⟨g, 0, rfl, fun j hj => ?_⟩
    have h1 : (cur.toList.take (n * 1))[j]? = some (.int .u32 (Nt.dig N j)) := by rw [ht, cellsOf_get, if_pos hj]
    rw [List.getElem?_take, if_pos (by omega), Array.getElem?_toList] at h1
    rw [Nat.zero_add]
    simp [World.cell?, hb, h1]

/-- What a function that answers words answers. -/
def WordPost (N : Nat) (w : World) (e : Ending) (w' : World) : Prop :=
  ∃ A c, e = .returned (.slice A (Nt.wlen N) c) ∧ IsNat w' A (Nt.wlen N) N ∧ Nt.wlen N ≤ c ∧ c ≤ 9223372036854775807 ∧ Below w.heap.size w w'

theorem N8wlen_words (N : Nat) : Nt.wlen N ≤ N8.wlen N ∧ N8.wlen N ≤ 4 * Nt.wlen N ∧ 4 * Nt.wlen N ≤ N8.wlen N + 3 := by
  have h1 := Nt.lt_pw_wlen N
  rw [← N8.pw_words] at h1
  have h2 := N8.wlen_le h1
  have h3 := N8.lt_pw_wlen N
  have h4 : N < Nt.pw ((N8.wlen N + 3) / 4) := by
    rw [← N8.pw_words]
    exact Nat.lt_of_lt_of_le h3 (N8.pw_mono (by omega))
  have h5 := Nt.wlen_le h4
  omega

set_option maxHeartbeats 1000000 in
theorem words_any (A : Option Addr) (n c N : Nat) (w : World) (h : IsD w A n N) (hc : n ≤ c) (hm : c ≤ 9223372036854775807) (hn : n ≤ 1000000) :
    Calls Try.prog 43 #[.slice A n c] w (WordPost N w) := by
  obtain ⟨i0, hi, hz0, hz1, hz2⟩ := info_parts info44
  have hD := h.trim
  have hL := h.wl
  go_enter Try.func43, Try.ntmps43
  go_wp2_with (go_at_call 63; refine (cut_any A n c N _ h hc hm).mono ?_; rintro e w' ⟨rfl, rfl⟩)
  clear h
  obtain ⟨L, hLe⟩ : ∃ L, L = N8.wlen N := ⟨_, rfl⟩
  rw [← hLe] at hD hL ⊢
  have HL := Lib.hid hLe
  clear hLe
  go_loopw [3, 4] (fun v i wr => ∃ k q : Nat, k ≤ L ∧ i = .int .i64 k ∧ 4 * q ≤ k + 3 ∧ k ≤ 4 * q ∧ wr.ownsRow w.heap.size 44 1 v q (cellsOf (N % N8.pw k) q) ∧ Below w.heap.size w wr) (fun _ i _ => L - (intOf i).toNat)
  case atStart => exact ⟨0, 0, Nat.zero_le _, rfl, by omega, by omega, World.ownsRow_lit w #[] 0 (Nat.le_refl _) (by unfold maxLen; omega) rfl, (Below.refl _ _).alloc (Nat.le_refl _) _⟩
  case round =>
    obtain ⟨k, q, hk, rfl, hq1, hq2, hown, hb⟩ := hrel
    have hBw := hb.size
    by_cases hlt : k < L
    · have hDw := hD.below hb
      obtain ⟨b, o, rfl, hcell⟩ := hDw.2 (by omega)
      obtain ⟨b', o', e', hbl, _⟩ := hD.2.at_ (by omega)
      cases e'
      have h0 := hcell k hlt
      have hd := N8.dig_lt N k
      obtain ⟨p, r, hkp, hr⟩ : ∃ p r : Nat, k = 4 * p + r ∧ r < 4 := ⟨k / 4, k % 4, by omega, by omega⟩
      obtain ⟨w1, w2, w3⟩ := N8.words_step (N := N) hkp hr
      have HW1 := Lib.hid w1
      have HW3 := Lib.hid w3
      have h00 := (hb.cell (p := ⟨b, o + k, none⟩) hbl).symm.trans h0
      clear w1 w3 hcell
      rcases (by omega : r = 0 ∨ r = 1 ∨ r = 2 ∨ r = 3) with rfl | rfl | rfl | rfl
      · have hqp : q = p := by omega
        subst hqp
        have e1 : (k : Int) % 4 = 0 := by omega
        have e2 : (k : Int) / 4 = (q : Int) := by omega
        have HK := Lib.hid hkp
        clear hkp
        go_wp2_with (at_builtin; go_must (refine wpList_append_own _ rfl (.tmp 17) (.tmp 18) _ rfl w.heap.size 44 i0 _ 1 4 Try.underlying23 hi hz0 hz1 hz2 rfl (by omega) _ q _ rfl (hown.alloc _) ⟨wr.heap.size, 0, none⟩ 1 1 [.int .u32 0] rfl rfl (news_one _ _ _) (by intro u hu; rw [List.mem_singleton.1 hu]; rfl) (by unfold maxLen; omega) (by omega) (by simp; omega) ?_); intro v' w4 hown4 hg4 hnil4)
        have hb4 := (hb.alloc hb.size (.cells #[.int .u32 0] 44)).grown hg4 (by simp; omega) (fun x hx => (hown.lt x hx).1)
        obtain ⟨g, c4, rfl, hg, hc1, hc2⟩ := own_some hown4 (by omega)
        have s1 := hown4.cellAt q (by omega)
        rw [List.getElem?_append_right (by simp [cellsOf]), show (cellsOf (N % N8.pw k) q).length = q by simp [cellsOf], Nat.sub_self] at s1
        have s1 : w4.cell? ⟨g, q, none⟩ = some (.int .u32 0) := s1
        have s2 := hown4.frozenAt q
        have s3 := (hb4.cell (p := ⟨b, o + k, none⟩) hbl).trans h00
        clear hg4 hnil4
        go_wp2_with fail
        go_region
        all_goals go_wp2_with fail
        go_roundw
        case rel =>
          have hst := (hown4.stored q (.int .u32 (N8.dig N k : Int))).1
          rw [cellsOf_set (M := N % N8.pw (k + 1)) HW3.out _ (by
            have h1 := HW1.out
            have h2 : Nt.dig (N % N8.pw k) q = 0 := by
              have := w2
              rw [Nat.pow_zero] at this
              omega
            rw [h1, h2, Nat.pow_zero, Nat.mul_one, Nat.zero_add])] at hst
          exact ⟨k + 1, q + 1, by omega, by go_num, by omega, by omega, hst, (hb4.setCell hg _).drew⟩
        case measure => simp [intOf] <;> omega
      · have hqp : q = p + 1 := by omega
        subst hqp
        have e1 : (k : Int) % 4 = 1 := by omega
        have e2 : (k : Int) / 4 = (p : Int) := by omega
        have HK := Lib.hid hkp
        obtain ⟨g, c4, rfl, hg, hc1, hc2⟩ := own_some hown (by omega)
        have s1 := hown.cellAt p (by omega)
        rw [cellsOf_get, if_pos (by omega)] at s1
        have s2 := hown.frozenAt p
        have hW1 := HW1.out
        have hset : ∀ v, v = Value.int .u32 (Nt.dig (N % N8.pw (k + 1)) p : Int) → (cellsOf (N % N8.pw k) (p + 1)).set p v = cellsOf (N % N8.pw (k + 1)) (p + 1) := fun v hv => by
          rw [cellsOf_succ]
          exact cellsOf_set HW3.out v hv _
        have HS := Lib.hid hset
        clear hset HW1 hkp
        generalize Nt.dig (N % N8.pw k) p = x at *
        obtain ⟨z, hz⟩ : ∃ z : Nat, z = x + N8.dig N k * 256 ^ 1 := ⟨_, rfl⟩
        rw [← hz] at hW1
        have HW1 := Lib.hid hW1
        have hxb : x < 256 ^ 1 := w2
        generalize N8.dig N k = d at *
        have hxz : (x : Int) + (d : Int) * 256 = (z : Int) := by omega
        have hdb : d * 256 < 4294967296 := by omega
        have hxb' : x < 256 := by omega
        have hzb : z < 4294967296 := by omega
        clear hW1 hz w2 hxb
        go_wp2_with fail
        go_region
        all_goals go_wp2_with fail
        go_roundw
        case rel =>
          have hst := (hown.stored p (.int .u32 (z : Int))).1
          rw [HS.out _ (by rw [HW1.out])] at hst
          exact ⟨k + 1, p + 1, by omega, by go_num, by omega, by omega, hst, (hb.setCell hg _).drew⟩
        case measure => simp [intOf] <;> omega
      · have hqp : q = p + 1 := by omega
        subst hqp
        have e1 : (k : Int) % 4 = 2 := by omega
        have e2 : (k : Int) / 4 = (p : Int) := by omega
        have HK := Lib.hid hkp
        obtain ⟨g, c4, rfl, hg, hc1, hc2⟩ := own_some hown (by omega)
        have s1 := hown.cellAt p (by omega)
        rw [cellsOf_get, if_pos (by omega)] at s1
        have s2 := hown.frozenAt p
        have hW1 := HW1.out
        have hset : ∀ v, v = Value.int .u32 (Nt.dig (N % N8.pw (k + 1)) p : Int) → (cellsOf (N % N8.pw k) (p + 1)).set p v = cellsOf (N % N8.pw (k + 1)) (p + 1) := fun v hv => by
          rw [cellsOf_succ]
          exact cellsOf_set HW3.out v hv _
        have HS := Lib.hid hset
        clear hset HW1 hkp
        generalize Nt.dig (N % N8.pw k) p = x at *
        obtain ⟨z, hz⟩ : ∃ z : Nat, z = x + N8.dig N k * 256 ^ 2 := ⟨_, rfl⟩
        rw [← hz] at hW1
        have HW1 := Lib.hid hW1
        have hxb : x < 256 ^ 2 := w2
        generalize N8.dig N k = d at *
        have hxz : (x : Int) + (d : Int) * 65536 = (z : Int) := by omega
        have hdb : d * 65536 < 4294967296 := by omega
        have hxb' : x < 65536 := by omega
        have hzb : z < 4294967296 := by omega
        clear hW1 hz w2 hxb
        go_wp2_with fail
        go_region
        all_goals go_wp2_with fail
        go_roundw
        case rel =>
          have hst := (hown.stored p (.int .u32 (z : Int))).1
          rw [HS.out _ (by rw [HW1.out])] at hst
          exact ⟨k + 1, p + 1, by omega, by go_num, by omega, by omega, hst, (hb.setCell hg _).drew⟩
        case measure => simp [intOf] <;> omega
      · have hqp : q = p + 1 := by omega
        subst hqp
        have e1 : (k : Int) % 4 = 3 := by omega
        have e2 : (k : Int) / 4 = (p : Int) := by omega
        have HK := Lib.hid hkp
        obtain ⟨g, c4, rfl, hg, hc1, hc2⟩ := own_some hown (by omega)
        have s1 := hown.cellAt p (by omega)
        rw [cellsOf_get, if_pos (by omega)] at s1
        have s2 := hown.frozenAt p
        have hW1 := HW1.out
        have hset : ∀ v, v = Value.int .u32 (Nt.dig (N % N8.pw (k + 1)) p : Int) → (cellsOf (N % N8.pw k) (p + 1)).set p v = cellsOf (N % N8.pw (k + 1)) (p + 1) := fun v hv => by
          rw [cellsOf_succ]
          exact cellsOf_set HW3.out v hv _
        have HS := Lib.hid hset
        clear hset HW1 hkp
        generalize Nt.dig (N % N8.pw k) p = x at *
        obtain ⟨z, hz⟩ : ∃ z : Nat, z = x + N8.dig N k * 256 ^ 3 := ⟨_, rfl⟩
        rw [← hz] at hW1
        have HW1 := Lib.hid hW1
        have hxb : x < 256 ^ 3 := w2
        generalize N8.dig N k = d at *
        have hxz : (x : Int) + (d : Int) * 16777216 = (z : Int) := by omega
        have hdb : d * 16777216 < 4294967296 := by omega
        have hxb' : x < 16777216 := by omega
        have hzb : z < 4294967296 := by omega
        clear hW1 hz w2 hxb
        go_wp2_with fail
        go_region
        all_goals go_wp2_with fail
        go_roundw
        case rel =>
          have hst := (hown.stored p (.int .u32 (z : Int))).1
          rw [HS.out _ (by rw [HW1.out])] at hst
          exact ⟨k + 1, p + 1, by omega, by go_num, by omega, by omega, hst, (hb.setCell hg _).drew⟩
        case measure => simp [intOf] <;> omega
    · have hk' : k = L := by omega
      subst hk'
      obtain ⟨A', c', rfl, hc1, hc2⟩ := own_formI hown
      rw [N8.mod_pw_of_lt hD.1] at hown
      have hNq : N < Nt.pw q := by rw [← N8.pw_words]; exact Nat.lt_of_lt_of_le hD.1 (N8.pw_mono hq2)
      have hq : q = Nt.wlen N := by
        have := N8wlen_words N
        have := HL.out
        have := Nt.wlen_le hNq
        omega
      have hnat := own_isNat hown hNq
      subst hq
      have HN := Lib.hid hnat
      clear hown hnat hNq
      go_wp2_with fail
      go_ret
      exact ⟨A', c', rfl, HN.out, hc1, hc2, hb⟩
end Go.Proofs.Ytegbhenchmfngaa
