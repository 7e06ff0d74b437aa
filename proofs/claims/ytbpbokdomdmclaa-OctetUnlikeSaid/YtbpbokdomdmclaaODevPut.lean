/- The program's Put. -/
import Derived.Test.YtbpbokdomdmclaaOCells
namespace Go.Proofs.Ytbpbokdomdmclaa
open Go.RowKit

set_option maxHeartbeats 1000000 in
theorem oput_any (A B : Option Addr) (c d : Nat) (b : List Nat) (l : List Int) (w : World) (hs : Slice A b.length c) (hA : Holds w A (bytesV b)) (hB : Holds w B (intsV l)) (hl : Wide l)
    (hb1 : b.length ≤ 1000000) (hl1 : l.length ≤ 1000000) :
    Calls Try.prog 11 #[.slice A b.length c, .slice B l.length d] w (PutPost b l w) := by
  have HW := Lib.hid hl
  clear hl
  go_enter Try.func11, Try.ntmps11
  go_wp2_with fail
  refine (clone_any A c b w hs hA hb1).mono ?_
  rintro e w1 ⟨A1, c1, rfl, hown1, hb1⟩
  go_wp2_with fail
  go_loopw [6, 13] (fun v i wr => ∃ k : Nat, i = .int .i64 k ∧ k ≤ l.length ∧ Hid (∀ j (h : j < l.length), j < k → 0 ≤ l[j]) ∧ wr.ownsRow w.heap.size 5 1 v (b ++ lebs (l.take k)).length (bytesV (b ++ lebs (l.take k))) ∧ Below w.heap.size w wr) (fun _ i _ => l.length - (intOf i).toNat)
  case atStart => exact ⟨0, rfl, Nat.zero_le _, fun j _ h => absurd h (by omega), by simpa [lebs] using hown1, hb1⟩
  case round =>
    clear hown1 hb1
    obtain ⟨k, rfl, hk, HP, hown, hb⟩ := hrel
    by_cases hlt : k < l.length
    · obtain ⟨g, o, rfl, hc⟩ := (hB.below hb) (by rw [intsV_len]; omega)
      have h1 := hc k _ (intsV_get hlt)
      have hx := HW.out _ (List.getElem_mem hlt)
      have hst := lebs_take hlt
      have hlen : (b ++ lebs (l.take k)).length ≤ 11000000 := by
        have := lebs_len (l := l.take k) (fun x hx => HW.out x (List.mem_of_mem_take hx))
        rw [List.length_take] at this
        rw [List.length_append]
        omega
      by_cases hneg : l[k] < 0
      · have hno : ¬ ∀ x ∈ l, 0 ≤ x := fun h => by have := h _ (List.getElem_mem hlt); omega
        have HNO := Lib.hid hno
        clear hno hst
        generalize l[k] = x at *
        go_wp2_with fail
        go_ret2
        exact .inr ⟨HNO.out, rfl, hb⟩
      · have HPN : Hid (∀ j (h : j < l.length), j < k + 1 → 0 ≤ l[j]) := fun j h hj => by
          by_cases e : j = k
          · subst e; omega
          · exact HP.out j h (by omega)
        generalize l[k] = x at *
        obtain ⟨n, rfl⟩ : ∃ n : Nat, x = n := ⟨x.toNat, by omega⟩
        rw [Int.toNat_natCast] at hst
        have HST := Lib.hid hst
        have hnb : n < 18446744073709551616 := by omega
        clear hst hc
        have HC := Lib.hid (appendForm_any w.heap.size _ _ n w wr hown hb hb.size hnb (by omega))
        clear hlen
        go_wp2_with fail
        refine (HC.out).mono ?_
        rintro e w2 ⟨A2, c2, rfl, hown2, _, hb2, _⟩
        go_wp2_with fail
        go_roundw
        case rel => exact ⟨k + 1, by go_num, by omega, HPN, by rw [HST.out, ← List.append_assoc]; simpa [Nat.add_assoc] using hown2, hb2⟩
        case measure => simp [intOf] <;> omega
    · have hk' : k = l.length := by omega
      subst hk'
      rw [List.take_length] at hown
      have hall : ∀ x ∈ l, 0 ≤ x := fun x hx => by
        obtain ⟨j, hj, rfl⟩ := List.mem_iff_getElem.1 hx
        exact HP.out j hj hj
      have HA := Lib.hid hall
      clear hall
      obtain ⟨A3, c3, rfl, hs3, _⟩ := own_slice hown
      go_wp2_with fail
      go_ret2
      exact .inl ⟨HA.out, A3, c3, rfl, hown, hs3, hb⟩
end Go.Proofs.Ytbpbokdomdmclaa
