/- nat.Decimal: the decimal digits. -/
import Derived.Test.YtegbhenchmfngaaNorm
import Derived.Test.YtegbhenchmfngaaDivWord
import Derived.Test.YtegbhenchmfngaaReverse
import Derived.Laws.BytesArg
import Derived.Deep.DeepMust
namespace Go.Proofs.Ytegbhenchmfngaa
open Go.RowKit

theorem info5 : (Try.prog.info? 5).map (fun i => (i.zero, i.size, i.bytes)) = some (some (.int .u8 0), 1, 1) := by kernel_rfl
/-- The first n digits, the least first. -/
def digs (N n : Nat) : List Value := (List.range n).map fun i => .int .u8 ((48 + N / 10 ^ i % 10 : Nat) : Int)
theorem digs_succ (N n : Nat) : digs N (n + 1) = digs N n ++ [.int .u8 ((48 + N / 10 ^ n % 10 : Nat) : Int)] := by
  unfold digs
  rw [List.range_succ, List.map_append]; rfl
theorem digs_row {w : World} {g cap n N : Nat} {cur : Array Value} (hb : w.heap[g]? = some (.cells cur 5 (0, 0))) (hs : cur.size = cap * 1) (ht : cur.toList.take (n * 1) = digs N n) :
    ∃ G, w.rowIs g 5 cap G ∧ ∀ j, j < n → G j = .int .u8 ((48 + N / 10 ^ j % 10 : Nat) : Int) := by
  refine ⟨fun j => (cur[j]?).getD undef, ⟨cur, hb, by omega, fun i hi => ?_⟩, fun j hj => ?_⟩
  · have hi' : i < cur.size := by omega
    show cur[i]? = some ((cur[i]?).getD undef)
    rw [Array.getElem?_eq_getElem hi']; rfl
  · have h1 : (cur.toList.take (n * 1))[j]? = some (.int .u8 ((48 + N / 10 ^ j % 10 : Nat) : Int)) := by
      rw [ht]
      unfold digs
      rw [List.getElem?_map, List.getElem?_range hj]; rfl
    rw [List.getElem?_take, if_pos (by omega), Array.getElem?_toList] at h1
    show (cur[j]?).getD undef = _
    rw [h1]; rfl
theorem decL_get (N L i : Nat) (h : i < L) : (Nt.decL N L).getD i 0 = ((48 + N / 10 ^ (L - 1 - i) % 10 : Nat) : Int) := by
  unfold Nt.decL
  rw [List.getD_eq_getElem?_getD, List.getElem?_map, List.getElem?_range h]; rfl
theorem digs_len (N n : Nat) : (digs N n).length = n := by simp [digs]

set_option maxHeartbeats 1000000 in
theorem decimal_any (A : Option Addr) (n c N : Nat) (w : World) (h : IsNat w A n N) (hc : n ≤ c) (hm : c ≤ 9223372036854775807) (hn : n ≤ 1099511627776) :
    Calls Try.prog 37 #[.slice A n c] w fun e w' => ∃ L, Nt.IsDec N L ∧ e = .returned (.string (strOfNums (Nt.decL N L))) ∧ Below w.heap.size w w' := by
  obtain ⟨i0, hi, hz0, hz1, hz2⟩ := info_parts info5
  go_enter Try.func37, Try.ntmps37
  go_wp2_with fail
  refine (norm_any A n c N _ h hc hm hn).mono ?_; rintro e w1 ⟨A1, c1, rfl, hown, hb⟩
  go_wp2_with fail
  go_loopg [3, 4] N (fun gh lf dg wr => ∃ (t : Nat) (A1 : Option Addr) (c1 : Nat), gh = N / 10 ^ (9 * t) ∧ lf = .slice A1 (Nt.wlen (N / 10 ^ (9 * t))) c1 ∧
    Own w.heap.size wr A1 (Nt.wlen (N / 10 ^ (9 * t))) c1 (N / 10 ^ (9 * t)) ∧ wr.ownsRow w.heap.size 5 1 dg (9 * t) (digs N (9 * t)) ∧ Below w.heap.size w wr)
  case atStart => exact ⟨0, A1, c1, by simp, by simp, by simpa using hown, by simpa [digs] using World.ownsRow_nil w1 w.heap.size 5 1, hb⟩
  case round =>
    obtain ⟨t, A2, c2, hgh, rfl, hown, hdg, hb⟩ := hrel
    have HG := Lib.hid hgh
    clear hgh
    by_cases hX : N / 10 ^ (9 * t) = 0
    · have hN10 : N < 10 ^ (9 * t) := by
        rcases Nat.div_eq_zero_iff.1 hX with h0 | h0
        · have : 0 < 10 ^ (9 * t) := Nat.pow_pos (by decide)
          omega
        · exact h0
      have hw0 : Nt.wlen (N / 10 ^ (9 * t)) = 0 := by rw [hX]; rfl
      clear hX hown HG
      rcases hdg.2 with ⟨rfl, h0⟩ | ⟨g, cap, cur, rfl, hgB, hblk, hnc, hcm', hcs, htk⟩
      · have hN0 : N = 0 := by rw [h0] at hN10; simpa using hN10
        have hdec : Nt.IsDec N 1 := ⟨by omega, by rw [hN0]; decide, .inl rfl⟩
        have hdl : Nt.decL N 1 = [48] := by rw [hN0]; rfl
        have HD := Lib.hid hdec
        have HDL := Lib.hid hdl
        clear hdec hdl hN0 hN10 h0 hdg
        rw [hw0]
        clear hw0
        go_wp2_with fail
        refine wp_loop_rounds 1 ?_
        rw [rounds_succ]
        go_wp2_with fail
        go_ret
        exact ⟨1, HD.out, by rw [HDL.out]; rfl, hb⟩
      · obtain ⟨G, hrow, hG⟩ := digs_row hblk hcs htk
        clear hdg hblk hcs htk hi hz0 hz1 hz2
        have hT : 9 * t ≤ cap := hnc
        have hcapb : cap ≤ 9223372036854775807 := hcm'
        rw [hw0]
        clear hw0 hnc
        generalize 9 * t = T at *
        go_wp2_with fail
        go_loop [4] (fun v => ∃ k : Nat, k ≤ T ∧ v = .slice (some ⟨g, 0, none⟩) k cap ∧ N < 10 ^ k) (fun v => lenV v)
        case atStart => exact ⟨T, Nat.le_refl _, rfl, hN10⟩
        case round =>
          clear hN10
          obtain ⟨k, hk, rfl, hN10⟩ := hrel
          cases k with
          | zero =>
            have hN0 : N = 0 := by simpa using hN10
            have hdec : Nt.IsDec N 1 := ⟨by omega, by rw [hN0]; decide, .inl rfl⟩
            have hdl : Nt.decL N 1 = [48] := by rw [hN0]; rfl
            have HD := Lib.hid hdec
            have HDL := Lib.hid hdl
            clear hdec hdl hN0 hN10
            go_wp2_with fail
            go_ret
            exact ⟨1, HD.out, by rw [HDL.out]; rfl, hb⟩
          | succ k =>
            have a1 := hrow.cell (i := k) (by omega)
            rw [hG k (by omega)] at a1
            by_cases hd : N / 10 ^ k % 10 = 0
            · rw [hd] at a1
              have hN := Nt.digit_zero hN10 hd
              clear hd hN10
              go_wp2_with fail
              go_round
              case rel => exact ⟨k, by omega, rfl, hN⟩
              case measure => simp [lenV]
            · have hle := Nt.digit_pos hd
              have hdec : Nt.IsDec N (k + 1) := ⟨by omega, hN10, .inr hle⟩
              obtain ⟨z, hz⟩ : ∃ z : Nat, z = 48 + N / 10 ^ k % 10 := ⟨_, rfl⟩
              rw [← hz] at a1
              have hz48 : ((z : Int) == 48) = false := by simp; omega
              have HDEC := Lib.hid hdec
              have HG := Lib.hid hG
              clear hd hN10 hle hdec hz hG
              go_wp2_with fail
              refine (reverse_any g (k + 1) cap cap (fun j => 48 + N / 10 ^ j % 10) G _ hrow (fun j hj => HG.out j (by omega)) (by omega) (by omega) hcapb).mono ?_
              rintro e w5 ⟨rfl, G', hrow', hG', hok⟩
              have hcv := run_convert_bytes_arg (P := Try.prog) w5 70 5 Try.underlying70 Try.underlying5 g 0 (k + 1) cap (Nt.decL N (k + 1)) (by simp [Nt.decL]) (fun i hi => by rw [Nat.zero_add, hrow'.cell (by omega), hG' i hi, decL_get _ _ _ hi]) 9 Try.underlying9
              have hb2 := hok.below hb hgB
              clear hrow' hG' hok
              go_wp2_with fail
              go_ret
              exact ⟨k + 1, HDEC.out, rfl, hb2⟩
    · have hN10 : 10 ^ (9 * t) ≤ N := by
        rcases Nat.lt_or_ge N (10 ^ (9 * t)) with h | h
        · exact absurd (Nat.div_eq_of_lt h) hX
        · exact h
      have htb := Nt.ten_bound hN10 h.1
      have hstep := Nt.ten_step N t
      have hdigit : ∀ j, j < 9 → N / 10 ^ (9 * t) % 1000000000 / 10 ^ j % 10 = N / 10 ^ (9 * t + j) % 10 := fun j hj => Nt.ten_digit hj
      generalize N / 10 ^ (9 * t) = X at *
      have hwl : 0 < Nt.wlen X := Nat.pos_of_ne_zero fun h => hX (Nt.wlen_eq_zero.1 h)
      obtain ⟨g, F, rfl, hgB, hrow, hF⟩ := hown.row hwl
      have hle := hown.le
      have hsm := hown.small
      have HS := Lib.hid hstep
      have HD := Lib.hid hdigit
      clear hstep hdigit hN10
      go_wp2_with fail
      refine (divWord_any g (Nt.wlen X) c2 c2 F X 1000000000 _ hrow hle (Nt.lt_pw_wlen X) hF (by decide) (by decide) hsm).mono ?_
      rintro e w2 ⟨rfl, hrow2, hok⟩
      have hX2 : X / 1000000000 < Nt.pw (Nt.wlen X) := Nat.lt_of_le_of_lt (Nat.div_le_self _ _) (Nt.lt_pw_wlen X)
      have hown2 := Own.of_row (n := Nt.wlen X) (N := X / 1000000000) hrow2 hgB hsm hle hX2 (fun j hj => if_pos hj)
      have hdg2 := hdg.kept hok.grownBy (.inr fun e => own_ne_row hdg hrow (by decide) e.symm)
      have hb2 := hok.below hb hgB
      have hgb : X % 1000000000 < 1000000000 := Nat.mod_lt _ (by decide)
      go_wp2_with fail
      refine (trim_any _ _ _ (X / 1000000000) _ hown2.nat hle (by omega)).mono ?_; rintro e w' ⟨rfl, rfl⟩
      have hown3 := hown2.trim
      rename_i w3
      clear hown hdg hb hown2 hrow hrow2 hok hX2
      go_wp2_with fail
      go_loopw [4, 5, 15] (fun dg gr i wi => ∃ j q : Nat, j ≤ 9 ∧ i = .int .i64 j ∧ gr = .int .u32 q ∧ q < 1000000000 ∧ Hid (q = X % 1000000000 / 10 ^ j) ∧ wi.ownsRow w.heap.size 5 1 dg (9 * t + j) (digs N (9 * t + j)) ∧
        Own w.heap.size wi (some ⟨g, 0, none⟩) (Nt.wlen (X / 1000000000)) c2 (X / 1000000000) ∧ Below w.heap.size w wi) (fun _ _ i _ => 9 - (intOf i).toNat)
      case atStart => exact ⟨0, X % 1000000000, by omega, rfl, congrArg (Value.int .u32) (by omega), hgb, show _ = _ by simp, hdg2, hown3, hb2⟩
      case round =>
        clear hown3 hdg2 hb2
        obtain ⟨j, q, hj, rfl, rfl, hq, HQ, hdg, hown, hb⟩ := hrel
        by_cases hj9 : j < 9
        · have hdj : q % 10 = N / 10 ^ (9 * t + j) % 10 := by rw [HQ.out]; exact HD.out j hj9
          have HDJ := Lib.hid hdj
          clear hdj
          go_wp2_with (at_builtin; go_must (refine wpList_append_own _ rfl (.tmp 17) (.tmp 22) _ rfl w.heap.size 5 i0 _ 1 1 Try.underlying70 hi hz0 hz1 hz2 rfl (by omega) _ (9 * t + j) (digs N (9 * t + j)) rfl (hdg.alloc _) ⟨wr.heap.size, 0, none⟩ 1 1 [.int .u8 (48 + (q : Int) % 10)] rfl rfl (news_one _ _ _) (by intro u hu; rw [List.mem_singleton.1 hu]; rfl) (by unfold maxLen; omega) (by omega) (by have := hb.size; simp; omega) ?_); intro v' w4 hown4 hg4 hnil4)
          have hlt4 : 9 * t + (j + 1) = 9 * t + j + 1 := by omega
          have hdig : digs N (9 * t + (j + 1)) = digs N (9 * t + j) ++ [.int .u8 (48 + (q : Int) % 10)] := by
            rw [hlt4, digs_succ, ← HDJ.out]
            congr 3
          have hown5 := (hown.keep ((Below.refl _ _).alloc (Nat.le_refl _) _)).grown hg4 (fun g F hr => own_ne_row (hdg.alloc _) hr (by decide))
          have hb5 := (hb.alloc hb.size (.cells #[.int .u8 (48 + (q : Int) % 10)] 5)).grown hg4 (by have := hb.size; simp; omega) (fun k hk => (hdg.lt k hk).1)
          have HDIG := Lib.hid hdig
          have HLT := Lib.hid hlt4
          clear hdig hlt4 hg4 hnil4
          go_roundw
          case rel => exact ⟨j + 1, q / 10, by omega, by go_num, by go_num, by omega, show _ = _ by rw [HQ.out, Nt.ten_div], by rw [HDIG.out, HLT.out]; exact hown4, hown5, hb5⟩
          case measure => simp [intOf] <;> omega
        · have hj' : j = 9 := by omega
          subst hj'
          go_wp2_with fail
          go_roundg (X / 1000000000)
          case measure => have := HG.out; omega
          case rel =>
            rw [HS.out] at hown ⊢
            exact ⟨t + 1, _, c2, rfl, rfl, hown, by rw [show 9 * (t + 1) = 9 * t + 9 from by omega]; exact hdg, hb⟩
end Go.Proofs.Ytegbhenchmfngaa
