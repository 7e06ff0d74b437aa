/- LevelSound: a level that is under another one has no greater value, by whatever values meet the orders; a gap is kept by them. -/
import Derived.Test.YtdpannjnhhjicaaLOrdersLaw
import Derived.Test.YtdpannjnhhjicaaLSays
import Derived.Test.YtdpannjnhhjicaaLSoundP
import Derived.Test.YtdpannjnhhjicaaLRegion
namespace Go.Proofs.Ytdpannjnhhjicaa
open Go.RowKit

theorem rcheck_err (v : Int) (A : Option Addr) (c n : Nat) (E : List Ord3) (w : World) (hn : E.length = n) (hA : Holds w A (ordsV E)) (hm : n ≤ 9223372036854775807) :
    Calls Try.prog 39 #[.int .i64 v, .slice A n c] w fun e w' => e = .returned (.int .i64 (errS v E)) ∧ Below w.heap.size w w' := by
  subst hn
  exact rcheck_any A c E v w hA hm
set_option maxHeartbeats 4000000 in
theorem sound_any (A C : Option Addr) (n c k f : Nat) (x lo hi : Int) (E : List Ord3) (vals : List Int) (w : World) (hn : E.length = n) (hA : Holds w A (ordsV E)) (hk : vals.length = k) (hV : Holds w C (intsV vals)) (hWV : WideI vals) (hn2 : n ≤ 9223372036854775807) (hk2 : k ≤ 9223372036854775807) :
    Calls Try.prog 32 #[ordAgg x A C n c k f lo hi] w fun e w' => e = .returned (.bool (soundB x E vals)) ∧ Below w.heap.size w w' := by
  have hb0 := (Below.refl w.heap.size w).alloc (Nat.le_refl _) (ordBox x A C n c k f lo hi)
  have hx := Lib.hid (holds_at w #[.int .i64 x, .slice A n c, .slice C k f, .int .i64 lo, .int .i64 hi] 39 _ rfl)
  have HN := Lib.hid hn
  have HK := Lib.hid hk
  have HA := Lib.hid (hA.alloc (ordBox x A C n c k f lo hi))
  have HV := Lib.hid (hV.alloc (ordBox x A C n c k f lo hi))
  have RC := Lib.hid fun w hA => rcheck_err x A c n E w hn hA hn2
  have RM := Lib.hid fun w hV hA => rmeets_n C A k f n c vals E w hk hn hV hA hWV hk2 hn2 _ rfl
  clear hn hk hA hV hWV
  go_enter Try.func32, Try.ntmps32
  go_wp2_with fail
  obtain ⟨wb, hwb⟩ : ∃ wb, w.alloc (ordBox x A C n c k f lo hi) = wb := ⟨_, rfl⟩
  rw [hwb] at hb0 HA HV
  have hx' := hx.out
  rw [hwb] at hx'
  simp only [hwb]
  have HX := Lib.hid hx'
  clear hwb hx hx'
  go_loopw [3] (fun i wr => ∃ j : Nat, j ≤ k ∧ i = .int .i64 j ∧ Hid ((vals.take j).all (fun x => decide (0 ≤ x) && decide (x ≤ 1000000)) = true) ∧ wb = wr) (fun i _ => k - (intOf i).toNat)
  case atStart => exact ⟨0, by omega, rfl, show _ = _ by simp, rfl⟩
  case round =>
    obtain ⟨j, hj, rfl, HJ, rfl⟩ := hrel
    have c2 : wb.cell? ⟨w.heap.size, 2, none⟩ = some (.slice C k f) := HX.out.cell (j := 2) rfl
    by_cases hlt : j < k
    · have hjl : j < vals.length := by rw [HK.out]; exact hlt
      obtain ⟨b, o, rfl, hb1, hc⟩ := HV.out.at_ (by rw [intsV_len]; omega)
      have s0 := hc j _ (intsV_get hjl)
      have HS := Lib.hid fun h => all_step (p := fun x => decide (0 ≤ x) && decide (x ≤ 1000000)) hjl HJ.out h
      have HNO := Lib.hid fun h => all_not (p := fun x => decide (0 ≤ x) && decide (x ≤ 1000000)) hjl h
      generalize vals[j] = y at *
      clear hc hjl
      by_cases h1 : y < 0
      · have HF : Hid (soundB x E vals = false) := show _ = _ by unfold soundB; rw [HNO.out (by simp; omega)]; rfl
        go_wp2_with fail
        go_ret
        exact ⟨ret_bool HF.out.symm, hb0⟩
      · by_cases h2 : 1000000 < y
        · have HF : Hid (soundB x E vals = false) := show _ = _ by unfold soundB; rw [HNO.out (by simp; omega)]; rfl
          go_wp2_with fail
          go_ret
          exact ⟨ret_bool HF.out.symm, hb0⟩
        · have HS' := Lib.hid (HS.out (by simp; omega))
          go_wp2_with fail
          go_roundw
          case rel => exact ⟨j + 1, by omega, by go_num, HS'.out, trivial⟩
          case measure => simp [intOf] <;> omega
    · have HALL : Hid (soundB x E vals = (decide (n ≤ 64) && decide (k ≤ 16) && decide (errS x E = 0) && meetsS vals E)) := show _ = _ by
        have h := HJ.out
        rw [List.take_of_length_le (by rw [HK.out]; omega)] at h
        unfold soundB
        rw [h, HN.out, HK.out, Bool.true_and]
      have c0 : wb.cell? ⟨w.heap.size, 0, none⟩ = some (.int .i64 x) := HX.out.cell (j := 0) rfl
      have c1 : wb.cell? ⟨w.heap.size, 1, none⟩ = some (.slice A n c) := HX.out.cell (j := 1) rfl
      by_cases h1 : n ≤ 64
      · have t1 : (n : Int) ≤ 64 := by omega
        by_cases h2 : k ≤ 16
        · have t2 : (k : Int) ≤ 16 := by omega
          have RC' := Lib.hid (RC.out wb HA.out)
          by_cases h3 : errS x E = 0
          · have t3 : (errS x E == 0) = true := by simp [h3]
            have HF : Hid (soundB x E vals = meetsS vals E) := show _ = _ by rw [HALL.out]; simp [h1, h2, h3]
            clear h3
            go_wp2_with fail
            refine RC'.out.mono ?_
            rintro e w1 ⟨rfl, g⟩
            have d1 : w1.cell? ⟨w.heap.size, 1, none⟩ = some (.slice A n c) := (HX.out.below g).cell (j := 1) rfl
            have d2 : w1.cell? ⟨w.heap.size, 2, none⟩ = some (.slice C k f) := (HX.out.below g).cell (j := 2) rfl
            have hb1 := below_step hb0 g
            have RM' := Lib.hid (RM.out w1 (HV.out.below g) (HA.out.below g))
            clear c0 c1 c2 g hb0
            go_wp2_with fail
            refine RM'.out.mono ?_
            rintro e w2 ⟨rfl, g⟩
            have hb2 := below_step hb1 g
            go_wp2_with fail
            go_ret
            exact ⟨ret_bool HF.out.symm, hb2⟩
          · have t3 : (errS x E == 0) = false := by simpa using h3
            have HF : Hid (soundB x E vals = false) := show _ = _ by rw [HALL.out]; simp [h3]
            clear h3
            go_wp2_with fail
            refine RC'.out.mono ?_
            rintro e w1 ⟨rfl, g⟩
            have hb1 := below_step hb0 g
            go_wp2_with fail
            go_ret
            exact ⟨ret_bool HF.out.symm, hb1⟩
        · have t2 : decide ((k : Int) ≤ 16) = false := by simp; omega
          have HF : Hid (soundB x E vals = false) := show _ = _ by rw [HALL.out]; simp [h2]
          go_wp2_with fail
          go_ret
          exact ⟨ret_bool HF.out.symm, hb0⟩
      · have t1 : decide ((n : Int) ≤ 64) = false := by simp; omega
        have HF : Hid (soundB x E vals = false) := show _ = _ by rw [HALL.out]; simp [h1]
        go_wp2_with fail
        go_ret
        exact ⟨ret_bool HF.out.symm, hb0⟩
theorem sound_n (A C : Option Addr) (n c k f : Nat) (x lo hi : Int) (E : List Ord3) (vals : List Int) (w : World) (hn : E.length = n) (hA : Holds w A (ordsV E)) (hk : vals.length = k) (hV : Holds w C (intsV vals)) (hWV : WideI vals) (hn2 : n ≤ 9223372036854775807) (hk2 : k ≤ 9223372036854775807) (r : Bool) (hr : soundB x E vals = r) :
    Calls Try.prog 32 #[ordAgg x A C n c k f lo hi] w fun e w' => e = .returned (.bool r) ∧ Below w.heap.size w w' := by
  subst hr
  exact sound_any A C n c k f x lo hi E vals w hn hA hk hV hWV hn2 hk2
end Go.Proofs.Ytdpannjnhhjicaa
