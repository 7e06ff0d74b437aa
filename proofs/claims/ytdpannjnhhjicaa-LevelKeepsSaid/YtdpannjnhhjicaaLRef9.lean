/- The document's Max. -/
import Derived.Test.YtdpannjnhhjicaaLRef8
import Derived.Test.YtdpannjnhhjicaaLRefMaxP
namespace Go.Proofs.Ytdpannjnhhjicaa
open Go.RowKit

theorem mostA_step {v : Int} {a : List Atom2} {m : Int} {k : Nat} (h : k < a.length) : mostA v (a.take (k + 1)) m = if a[k].1 = v then a[k].2 else mostA v (a.take k) m := by
  unfold mostA
  rw [List.take_succ_eq_append_getElem h, List.foldl_append]; rfl
theorem mostB_step {v : Int} {a : List Atom2} {m : Int} {k : Nat} (h : k < a.length) : mostB v (a.take (k + 1)) m = if a[k].1 = v ∧ mostB v (a.take k) m < a[k].2 then a[k].2 else mostB v (a.take k) m := by
  unfold mostB
  rw [List.take_succ_eq_append_getElem h, List.foldl_append]; rfl
set_option maxHeartbeats 4000000 in
theorem rmax_in (A B : Option Addr) (n m c d : Nat) (a b : List Atom2) (w : World) (hA : LevelAt w A n c a) (hB : LevelAt w B m d b) (ha : rightS 16 a = true) (hb : rightS 16 b = true) :
    Calls Try.prog 14 #[.slice A n c, .slice B m d] w (MaxPost a b w) := by
  have HRA := Lib.hid fun w (h : LevelAt w A n c a) => rright_n A c n a 16 w h true ha
  have HRB := Lib.hid fun w (h : LevelAt w B m d b) => rright_n B d m b 16 w h true hb
  have hn4 : n ≤ 4 := by rw [← hA.1]; exact right_len ha
  have hm4 : m ≤ 4 := by rw [← hB.1]; exact right_len hb
  have HE : Hid (maxErr a b = if 4 < (mergeS a b).length then 5 else 0) := show _ = _ by simp [maxErr, ha, hb]
  have HM := Lib.hid (rmax_merge ha hb)
  have HNA := Lib.hid hA.1
  have HNB := Lib.hid hB.1
  clear ha hb
  go_enter Try.func14, Try.ntmps14
  go_wp2_with fail
  refine (HRA.out _ hA).mono ?_
  rintro e w1 ⟨rfl, hb1⟩
  go_wp2_with fail
  refine (HRB.out _ (hB.below hb1)).mono ?_
  rintro e w2 ⟨rfl, hb2⟩
  have hb0 := below_step hb1 hb2
  clear hb1 hb2
  go_wp2_with fail
  go_loopw [6, 7] (fun t i wr => ∃ (k : Nat) (Ao : Option Addr) (co : Nat), k ≤ 17 ∧ i = .int .i64 k ∧ t = .slice Ao (rmaxK a b k).length co ∧ OwnA wr w.heap.size (.slice Ao (rmaxK a b k).length co) (rmaxK a b k) ∧ Below w.heap.size w wr) (fun _ i _ => 17 - (intOf i).toNat)
  case atStart => exact ⟨0, none, 0, by omega, rfl, rfl, OwnA.nil _ _, hb0⟩
  case round =>
    clear hb0
    obtain ⟨k, Ao, co, hk, rfl, rfl, hown, hbr⟩ := hrel
    by_cases hlt : k < 17
    · have q1 : (k : Int) ≤ 16 := by omega
      have hlen := rmaxK_len a b k
      obtain ⟨N, hN⟩ : ∃ N, (rmaxK a b k).length = N := ⟨_, rfl⟩
      rw [hN] at hown hlen ⊢
      have HN := Lib.hid hN
      clear hN
      go_wp2_with fail
      obtain ⟨wo, rfl⟩ : ∃ wo : World, wo = wr := ⟨_, rfl⟩
      go_loopw [8, 9] (fun t i wr => ∃ (j : Nat) (y : Int), j ≤ n ∧ i = .int .i64 j ∧ t = .int .i64 y ∧ Hid (y = mostA k (a.take j) (-1)) ∧ OwnA wr w.heap.size (.slice Ao N co) (rmaxK a b k) ∧ Below w.heap.size w wr) (fun _ i _ => n - (intOf i).toNat)
      case atStart => exact ⟨0, -1, by omega, rfl, rfl, show _ = _ by simp [mostA], hown, hbr⟩
      case round =>
        clear hown hbr
        obtain ⟨j, y, hj, rfl, rfl, HY, hown, hbr⟩ := hrel
        by_cases hlj : j < n
        · have hjl : j < a.length := by rw [HNA.out]; exact hlj
          obtain ⟨b1, o1, rfl, hb1, hc⟩ := (hA.2.2.below hbr).at_ (by rw [atomsV_len]; omega)
          have s0 := hc (j * 2) _ (atomsV_get0 hjl)
          have s1 := hc (j * 2 + 1) _ (atomsV_get1 hjl)
          rw [← Nat.add_assoc] at s1
          have HS := Lib.hid (mostA_step (v := k) (m := -1) hjl)
          generalize a[j] = x at *
          obtain ⟨p, q⟩ := x
          simp only at s0 s1 HS
          clear hc hjl
          by_cases hp : p = (k : Int)
          · have t0 : (p == (k : Int)) = true := by simp [hp]
            have HS' := Lib.hid (HS.out.trans (if_pos hp))
            clear hp
            go_wp2_with fail
            go_roundw
            case rel => exact ⟨j + 1, q, by omega, by go_num, rfl, HS'.out.symm, hown, hbr⟩
            case measure => simp [intOf] <;> omega
          · have t0 : (p == (k : Int)) = false := by simpa using hp
            have HS' := Lib.hid ((HS.out.trans (if_neg hp)).trans HY.out.symm)
            clear hp
            go_wp2_with fail
            go_roundw
            case rel => exact ⟨j + 1, y, by omega, by go_num, rfl, HS'.out.symm, hown, hbr⟩
            case measure => simp [intOf] <;> omega
        · have HM1 : Hid (y = mostA k a (-1)) := show _ = _ by rw [HY.out, List.take_of_length_le (by rw [HNA.out]; omega)]
          go_wp2_with fail
          clear hlj hj HY
          obtain ⟨wo2, rfl⟩ : ∃ wo2 : World, wo2 = wr := ⟨_, rfl⟩
          go_loopw [8, 10] (fun t i wr => ∃ (l : Nat) (z : Int), l ≤ m ∧ i = .int .i64 l ∧ t = .int .i64 z ∧ Hid (z = mostB k (b.take l) y) ∧ OwnA wr w.heap.size (.slice Ao N co) (rmaxK a b k) ∧ Below w.heap.size w wr) (fun _ i _ => m - (intOf i).toNat)
          case atStart => exact ⟨0, y, by omega, rfl, rfl, show _ = _ by simp [mostB], hown, hbr⟩
          case round =>
            clear hown hbr
            obtain ⟨l, z, hl, rfl, rfl, HZ, hown, hbr⟩ := hrel
            by_cases hll : l < m
            · have hll' : l < b.length := by rw [HNB.out]; exact hll
              obtain ⟨b1, o1, rfl, hb1, hc⟩ := (hB.2.2.below hbr).at_ (by rw [atomsV_len]; omega)
              have s0 := hc (l * 2) _ (atomsV_get0 hll')
              have s1 := hc (l * 2 + 1) _ (atomsV_get1 hll')
              rw [← Nat.add_assoc] at s1
              have HS := Lib.hid (mostB_step (v := k) (m := y) hll')
              rw [← HZ.out] at HS
              generalize b[l] = x at *
              obtain ⟨p, q⟩ := x
              simp only at s0 s1 HS
              clear hc hll'
              by_cases hp : p = (k : Int)
              · have t0 : (p == (k : Int)) = true := by simp [hp]
                by_cases hq : z < q
                · have HS' := Lib.hid (HS.out.trans (if_pos ⟨hp, hq⟩))
                  clear hp
                  go_wp2_with fail
                  go_roundw
                  case rel => exact ⟨l + 1, q, by omega, by go_num, rfl, HS'.out.symm, hown, hbr⟩
                  case measure => simp [intOf] <;> omega
                · have HS' := Lib.hid (HS.out.trans (if_neg (fun h => hq h.2)))
                  clear hp
                  go_wp2_with fail
                  go_roundw
                  case rel => exact ⟨l + 1, z, by omega, by go_num, rfl, HS'.out.symm, hown, hbr⟩
                  case measure => simp [intOf] <;> omega
              · have t0 : (p == (k : Int)) = false := by simpa using hp
                have HS' := Lib.hid (HS.out.trans (if_neg (fun h => hp h.1)))
                clear hp
                go_wp2_with fail
                go_roundw
                case rel => exact ⟨l + 1, z, by omega, by go_num, rfl, HS'.out.symm, hown, hbr⟩
                case measure => simp [intOf] <;> omega
            · have HT : Hid (mostAB a b k = z) := show _ = _ by
                unfold mostAB
                rw [← HM1.out, HZ.out, List.take_of_length_le (by rw [HNB.out]; omega)]
              have HSU := Lib.hid (rmaxK_succ a b k)
              by_cases hz : 0 ≤ z
              · have HI : Hid (rmaxK a b (k + 1) = rmaxK a b k ++ [((k : Int), z)]) := show _ = _ by rw [HSU.out]; unfold item; rw [HT.out, if_pos hz]
                have hone : LevelAt (wr.alloc (.cells #[.int .i64 k, .int .i64 z] 57)) (some ⟨wr.heap.size, 0, none⟩) 1 1 [((k : Int), z)] := ⟨rfl, ⟨by omega, by omega, fun h => by cases h⟩, holds_at wr _ _ _ rfl⟩
                have hb3 := hbr.alloc hbr.size (.cells #[.int .i64 k, .int .i64 z] 57)
                have hown' : OwnA (wr.alloc (.cells #[.int .i64 k, .int .i64 z] 57)) w.heap.size (.slice Ao N co) (rmaxK a b k) := hown.alloc _
                go_wp2_with (at_builtin; go_must (refine wpList_append_atoms rfl (.tmp 70) (.tmp 74) _ rfl Try.underlying23 w.heap.size _ (rmaxK a b k) [((k : Int), z)] rfl hown' (some ⟨wr.heap.size, 0, none⟩) 1 1 rfl hone (by rw [HN.out]; omega) w hb3 (by have := hbr.size; simp; omega) ?_); intro v3 w3 hown3 hb4 hz4 _ _)
                rw [← HI.out] at hown3
                obtain ⟨A3, c3, rfl, _⟩ := hown3.level
                go_roundw
                case rel => exact ⟨k + 1, A3, c3, by omega, by go_num, rfl, hown3, hb4⟩
                case measure => simp [intOf] <;> omega
              · have HI : Hid (rmaxK a b (k + 1) = rmaxK a b k) := show _ = _ by rw [HSU.out]; unfold item; rw [HT.out, if_neg hz, List.append_nil]
                go_wp2_with fail
                go_roundw
                case rel => exact ⟨k + 1, Ao, co, by omega, by go_num, by rw [HI.out, HN.out], by rw [HI.out, HN.out]; exact hown, hbr⟩
                case measure => simp [intOf] <;> omega
    · have hk' : k = 17 := by omega
      have q1 : ¬ (k : Int) ≤ 16 := by omega
      have he : rmaxK a b k = mergeS a b := by rw [hk']; exact HM.out
      rw [he] at hown ⊢
      clear hk' he
      by_cases hl : 4 < (mergeS a b).length
      · have HE2 := Lib.hid (HE.out.trans (if_pos hl))
        have t0 : (4 : Int) < ((mergeS a b).length : Int) := by omega
        go_wp2_with fail
        go_ret2
        have h := HE2.out
        rw [show (5 : Int) = maxErr a b from h.symm]
        exact .err _ (by rw [h]; omega) hbr
      · have HE2 := Lib.hid (HE.out.trans (if_neg hl))
        have t0 : ¬ (4 : Int) < ((mergeS a b).length : Int) := by omega
        go_wp2_with fail
        go_ret2
        obtain ⟨A4, c4, e4, h4⟩ := hown.level
        cases e4
        exact .ok _ Ao co HE2.out hown h4 hbr
theorem rmax_any (A B : Option Addr) (n m c d : Nat) (a b : List Atom2) (w : World) (hA : LevelAt w A n c a) (hB : LevelAt w B m d b) :
    Calls Try.prog 14 #[.slice A n c, .slice B m d] w (MaxPost a b w) := by
  cases ha : rightS 16 a
  · have HE : Hid (maxErr a b = 19) := show _ = _ by simp [maxErr, ha]
    have HR := Lib.hid (rright_n A c n a 16 w hA false ha)
    clear ha
    go_enter Try.func14, Try.ntmps14
    go_wp2_with fail
    refine HR.out.mono ?_
    rintro e w1 ⟨rfl, hb1⟩
    go_wp2_with fail
    go_ret2
    have h := HE.out
    rw [show (19 : Int) = maxErr a b from h.symm]
    exact .err _ (by rw [h]; omega) hb1
  · cases hb : rightS 16 b
    · have HE : Hid (maxErr a b = 19) := show _ = _ by simp [maxErr, hb]
      have HR := Lib.hid (rright_n A c n a 16 w hA true ha)
      have HS := Lib.hid fun w (hB : LevelAt w B m d b) => rright_n B d m b 16 w hB false hb
      clear ha hb
      go_enter Try.func14, Try.ntmps14
      go_wp2_with fail
      refine HR.out.mono ?_
      rintro e w1 ⟨rfl, hb1⟩
      go_wp2_with fail
      refine (HS.out _ (hB.below hb1)).mono ?_
      rintro e w2 ⟨rfl, hb2⟩
      go_wp2_with fail
      go_ret2
      have h := HE.out
      rw [show (19 : Int) = maxErr a b from h.symm]
      exact .err _ (by rw [h]; omega) (below_step hb1 hb2)
    · exact rmax_in A B n m c d a b w hA hB ha hb
end Go.Proofs.Ytdpannjnhhjicaa
