/- The document's numbers as digits of base 256: cut, Digits, carried, plus, less, minus. -/
import Derived.Test.YtegbhenchmfngaaMem
import Derived.Test.YtegbhenchmfngaaBase8
import Derived.Deep.DeepMust
namespace Go.Proofs.Ytegbhenchmfngaa
open Go.RowKit

theorem info3 : (Try.prog.info? 3).map (fun i => (i.zero, i.size, i.bytes)) = some (some (.int .i64 0), 1, 8) := by kernel_rfl

/-- A slice of ints that holds these numbers. -/
def IsL (w : World) (A : Option Addr) (n : Nat) (f : Nat → Nat) : Prop := 0 < n → ∃ b o, A = some ⟨b, o, none⟩ ∧ ∀ j, j < n → w.cell? ⟨b, o + j, none⟩ = some (.int .i64 (f j))
/-- The digits of N. -/
def IsD (w : World) (A : Option Addr) (n N : Nat) : Prop := N < N8.pw n ∧ IsL w A n (N8.dig N)
namespace IsL
variable {w w' : World} {A : Option Addr} {n : Nat} {f g : Nat → Nat}
theorem at_ (h : IsL w A n f) (hn : 0 < n) : ∃ b o, A = some ⟨b, o, none⟩ ∧ b < w.heap.size ∧ ∀ j, j < n → w.cell? ⟨b, o + j, none⟩ = some (.int .i64 (f j)) := by
  obtain ⟨b, o, e, hc⟩ := h hn
  exact ⟨b, o, e, World.block_lt_of_cell? _ _ (hc 0 hn), hc⟩
theorem keep (h : IsL w A n f) (hk : ∀ p : Addr, p.block < w.heap.size → w'.cell? p = w.cell? p) : IsL w' A n f := fun hn => by
  obtain ⟨b, o, e, hb, hc⟩ := h.at_ hn
  exact ⟨b, o, e, fun j hj => (hk _ hb).trans (hc j hj)⟩
theorem below (h : IsL w A n f) (hb : Below w.heap.size w w') : IsL w' A n f := h.keep fun _ hp => hb.cell hp
theorem drew (h : IsL w A n f) : IsL w.drew A n f := h
theorem drewN (h : IsL w A n f) (k : Nat) : IsL (w.drewN k) A n f := h
theorem alloc (h : IsL w A n f) (o : Obj) : IsL (w.alloc o) A n f := h.keep fun p hp => World.cell?_alloc_lt w o p (by omega)
theorem congr (h : IsL w A n f) (e : ∀ j, j < n → f j = g j) : IsL w A n g := fun hn => by
  obtain ⟨b, o, ea, hc⟩ := h hn
  exact ⟨b, o, ea, fun j hj => by rw [hc j hj, e j hj]⟩
theorem less (h : IsL w A n f) {m : Nat} (hm : m ≤ n) : IsL w A m f := fun h0 => by
  obtain ⟨b, o, e, hc⟩ := h (by omega)
  exact ⟨b, o, e, fun j hj => hc j (by omega)⟩
end IsL
namespace IsD
variable {w w' : World} {A : Option Addr} {n N : Nat}
theorem wl (h : IsD w A n N) : N8.wlen N ≤ n := N8.wlen_le h.1
theorem below (h : IsD w A n N) (hb : Below w.heap.size w w') : IsD w' A n N := ⟨h.1, h.2.below hb⟩
theorem alloc (h : IsD w A n N) (o : Obj) : IsD (w.alloc o) A n N := ⟨h.1, h.2.alloc o⟩
theorem drewN (h : IsD w A n N) (k : Nat) : IsD (w.drewN k) A n N := h
theorem trim (h : IsD w A n N) : IsD w A (N8.wlen N) N := ⟨N8.lt_pw_wlen N, h.2.less h.wl⟩
theorem nil (w : World) (A : Option Addr) : IsD w A 0 0 := ⟨N8.pw_pos 0, fun h => absurd h (by omega)⟩
end IsD
/-- The cells of a row of ints. -/
def ints (f : Nat → Nat) (n : Nat) : List Value := (List.range n).map fun j => .int .i64 (f j)
theorem ints_succ (f : Nat → Nat) (n : Nat) : ints f (n + 1) = ints f n ++ [.int .i64 (f n : Int)] := by
  unfold ints
  rw [List.range_succ, List.map_append]; rfl
theorem ints_congr {f g : Nat → Nat} {n : Nat} (h : ∀ j, j < n → f j = g j) : ints f n = ints g n := by
  unfold ints
  refine List.map_congr_left fun j hj => ?_
  rw [h j (List.mem_range.1 hj)]
theorem ints_get {f : Nat → Nat} {n j : Nat} : (ints f n)[j]? = if j < n then some (.int .i64 (f j)) else none := by
  unfold ints
  rw [List.getElem?_map]
  by_cases h : j < n
  · rw [if_pos h, List.getElem?_range h]; rfl
  · rw [if_neg h, List.getElem?_eq_none (by simpa using h)]; rfl
theorem ints_zero (f : Nat → Nat) : ints f 0 = [] := rfl
theorem own_formI {w : World} {B e n : Nat} {v : Value} {xs : List Value} (h : w.ownsRow B e 1 v n xs) : ∃ A c, v = .slice A n c ∧ n ≤ c ∧ c ≤ 9223372036854775807 := by
  rcases h.2 with ⟨rfl, rfl⟩ | ⟨g, cap, _, rfl, _, _, h1, h2, _⟩
  · exact ⟨none, 0, rfl, Nat.le_refl _, by omega⟩
  · exact ⟨_, _, rfl, h1, h2⟩
theorem own_isL {w : World} {B n c : Nat} {A : Option Addr} {f : Nat → Nat} (h : w.ownsRow B 3 1 (.slice A n c) n (ints f n)) : IsL w A n f := by
  rcases h.2 with ⟨e, h0⟩ | ⟨g, cap, cur, e, _, hb, hn, hc, hs, ht⟩
  · cases e
    exact fun h => absurd h (by omega)
  · cases e
    refine fun _ => ⟨g, 0, rfl, fun j hj => ?_⟩
    have h1 : (cur.toList.take (n * 1))[j]? = some (.int .i64 (f j)) := by rw [ht, ints_get, if_pos hj]
    rw [List.getElem?_take, if_pos (by omega), Array.getElem?_toList] at h1
    rw [Nat.zero_add]
    simp [World.cell?, hb, h1]

theorem and_255 {x j : Nat} (hx : x < 4294967296) : bits .and .u32 ((x : Int) / 2 ^ (8 * j)) 255 = ((x / 256 ^ j % 256 : Nat) : Int) := by
  have h1 : x / 2 ^ (8 * j) < 4294967296 := Nat.lt_of_le_of_lt (Nat.div_le_self _ _) hx
  have h := u32_and_nat (x / 2 ^ (8 * j)) 255 h1 (by decide)
  rw [show (255 : Nat) = 2 ^ 8 - 1 from rfl, Nat.and_two_pow_sub_one_eq_mod] at h
  rw [show 256 ^ j = 2 ^ (8 * j) by rw [Nat.pow_mul]]
  simpa using h

/-- What a function on digits answers. -/
def DigPost (N : Nat) (w : World) (e : Ending) (w' : World) : Prop :=
  ∃ A c, e = .returned (.slice A (N8.wlen N) c) ∧ IsD w' A (N8.wlen N) N ∧ N8.wlen N ≤ c ∧ c ≤ 9223372036854775807 ∧ Below w.heap.size w w'

set_option maxHeartbeats 400000 in
theorem cut_any (A : Option Addr) (n c N : Nat) (w : World) (h : IsD w A n N) (hc : n ≤ c) (hm : c ≤ 9223372036854775807) :
    Calls Try.prog 63 #[.slice A n c] w fun e w' => e = .returned (.slice A (N8.wlen N) c) ∧ w = w' := by
  go_enter Try.func63, Try.ntmps63
  go_wp2
  go_loop [3] (fun i => ∃ k : Nat, k ≤ n ∧ i = .int .i64 k ∧ N < N8.pw k) (fun i => (intOf i).toNat)
  case atStart => exact ⟨n, Nat.le_refl _, rfl, h.1⟩
  case round =>
    obtain ⟨k, hk, rfl, hN⟩ := hrel
    cases k with
    | zero =>
      have e : N8.wlen N = 0 := Nat.le_zero.1 (N8.wlen_le hN)
      have E := Lib.hid e
      clear e
      go_wp2
      go_ret
      exact ⟨ret_slice E.out.symm, rfl⟩
    | succ k =>
      obtain ⟨b, o, rfl, hcell⟩ := h.2 (by omega)
      have h0 := hcell k (by omega)
      clear hcell
      by_cases hd : N8.dig N k = 0
      · rw [hd] at h0
        have hN' := N8.lt_pw_of_dig hN hd
        clear hd
        go_wp2
        go_round
        case rel => exact ⟨k, by omega, by go_num, hN'⟩
        case measure => simp [intOf] <;> omega
      · have hz : ((N8.dig N k : Int) == 0) = false := by simp; omega
        have e := N8.wlen_eq hN (N8.le_of_dig hd)
        have E := Lib.hid e
        clear e hd
        go_wp2
        go_ret
        exact ⟨ret_slice E.out.symm, rfl⟩

set_option maxHeartbeats 1000000 in
theorem digits_any (A : Option Addr) (n c M : Nat) (w : World) (h : IsNat w A n M) (hn : n ≤ 1099511627776) :
    Calls Try.prog 44 #[.slice A n c] w (DigPost M w) := by
  obtain ⟨i0, hi, hz0, hz1, hz2⟩ := info_parts info3
  go_enter Try.func44, Try.ntmps44
  go_wp2_with fail
  go_loopw [3, 4] (fun v i wr => ∃ k : Nat, k ≤ n ∧ i = .int .i64 k ∧ wr.ownsRow w.heap.size 3 1 v (4 * k) (ints (N8.dig M) (4 * k)) ∧ Below w.heap.size w wr) (fun _ i _ => n - (intOf i).toNat)
  case atStart => exact ⟨0, Nat.zero_le _, rfl, World.ownsRow_nil _ _ _ _, Below.refl _ _⟩
  case round =>
    obtain ⟨k, hk, rfl, hown, hb⟩ := hrel
    by_cases hlt : k < n
    · have hw := h.below hb
      obtain ⟨b, o, rfl, hcell⟩ := hw.2 (by omega)
      obtain ⟨b', o', e', hbl, _⟩ := h.at_ (by omega)
      cases e'
      have h0 := hcell k hlt
      have hd := Nt.dig_lt M k
      have hdw := fun j hj => N8.dig_words M k j hj
      generalize Nt.dig M k = x at *
      have HD := Lib.hid hdw
      clear hcell hdw hw
      obtain ⟨wo, rfl⟩ : ∃ wo : World, wo = wr := ⟨_, rfl⟩
      have hb0 := hb
      go_wp2_with fail
      go_loopw [3, 5] (fun v i wi => ∃ j : Nat, j ≤ 4 ∧ i = .int .i64 j ∧ wi.ownsRow w.heap.size 3 1 v (4 * k + j) (ints (N8.dig M) (4 * k + j)) ∧ Below w.heap.size w wi) (fun _ i _ => 4 - (intOf i).toNat)
      case atStart => exact ⟨0, by omega, rfl, hown, hb⟩
      case round =>
        clear hown hb
        obtain ⟨j, hj, rfl, hown, hb⟩ := hrel
        have h1 : wr.cell? ⟨b, o + k, none⟩ = some (.int .u32 x) := (hb.cell (p := ⟨b, o + k, none⟩) hbl).trans ((hb0.cell (p := ⟨b, o + k, none⟩) hbl).symm.trans h0)
        by_cases hj4 : j < 4
        · obtain ⟨d, hdd⟩ : ∃ d, d = N8.dig M (4 * k + j) := ⟨_, rfl⟩
          have e1 : bits .and .u32 ((x : Int) / 2 ^ (8 * j)) 255 = (d : Int) := by rw [and_255 hd, HD.out j hj4, hdd]
          have hdb : d < 256 := by rw [hdd]; exact N8.dig_lt _ _
          have HDD := Lib.hid hdd
          have hBw := hb.size
          clear hdd
          go_wp2_with (at_builtin; go_must (refine wpList_append_own _ rfl (.tmp 16) (.tmp 27) _ rfl w.heap.size 3 i0 _ 1 8 Try.underlying52 hi hz0 hz1 hz2 rfl (by omega) _ (4 * k + j) (ints (N8.dig M) (4 * k + j)) rfl (hown.alloc _) ⟨wr.heap.size, 0, none⟩ 1 1 [.int .i64 (d : Int)] rfl rfl (news_one _ _ _) (by intro u hu; rw [List.mem_singleton.1 hu]; rfl) (by unfold maxLen; omega) (by omega) (by simp; omega) ?_); intro v' w4 hown4 hg4 hnil4)
          have hb4 := (hb.alloc hb.size (.cells #[.int .i64 (d : Int)] 3)).grown hg4 (by simp; omega) (fun x hx => (hown.lt x hx).1)
          clear e1 hg4 hnil4
          go_roundw
          case rel => exact ⟨j + 1, by omega, by go_num, by rw [show 4 * k + (j + 1) = 4 * k + j + 1 by omega, ints_succ, ← HDD.out]; exact hown4, hb4⟩
          case measure => simp [intOf] <;> omega
        · have hj' : j = 4 := by omega
          subst hj'
          go_wp2_with fail
          go_roundw
          case rel => exact ⟨k + 1, by omega, by go_num, hown, hb⟩
          case measure => simp [intOf] <;> omega
    · have hk' : k = n := by omega
      subst hk'
      have hM8 : M < N8.pw (4 * k) := by rw [N8.pw_words]; exact h.1
      obtain ⟨A', c', rfl, hc1, hc2⟩ := own_formI hown
      have hD : IsD wr A' (4 * k) M := ⟨hM8, own_isL hown⟩
      clear hown
      go_wp2_with (go_at_call 63; refine (cut_any A' (4 * k) c' M _ hD hc1 hc2).mono ?_; rintro e w' ⟨rfl, rfl⟩)
      go_ret
      exact ⟨A', c', rfl, hD.trim, Nat.le_trans hD.wl hc1, hc2, hb⟩
end Go.Proofs.Ytegbhenchmfngaa
