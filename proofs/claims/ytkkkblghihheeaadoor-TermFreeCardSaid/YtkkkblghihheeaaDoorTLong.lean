/- retortlaw04.long. -/
import Derived.Test.YtkkkblghihheeaaDoorTAwake
namespace Go.Proofs.YtkkkblghihheeaaDoor
open Go.RowKit

def lens (l : List RowT) : Nat := (l.map fun x => x.2.2.length).sum
theorem lens_take {l : List RowT} {k : Nat} (h : k < l.length) : lens (l.take (k + 1)) = lens (l.take k) + l[k].2.2.length := by
  unfold lens; rw [take_snoc h, List.map_append, List.sum_append]; rfl
theorem lens_le {l : List RowT} : ∀ x ∈ l, x.2.2.length ≤ lens l := by
  induction l with
  | nil => intro x hx; cases hx
  | cons y l ih =>
    intro x hx
    have e : lens (y :: l) = y.2.2.length + lens l := by unfold lens; rw [List.map_cons, List.sum_cons]
    rcases List.mem_cons.1 hx with rfl | hx
    · omega
    · have := ih x hx; omega
/-- What long answers. -/
def LongPost (l : List RowT) (w : World) (e : Ending) (w' : World) : Prop := w = w' ∧ ((e = .returned (.bool true)) ∨ (lens l ≤ 9000 ∧ e = .returned (.bool false)))
set_option maxHeartbeats 1000000 in
theorem long_any (R : Option Addr) (m c : Nat) (l : List RowT) (w : World) (hm : l.length = m) (hmb : m ≤ 100000000) (hR : Holds w R (l.map rowV)) (hsl : ∀ x ∈ l, x.2.2.length ≤ 4611686018427387904) :
    Calls Tryd.prog 14 #[.slice R m c] w (LongPost l w) := by
  have HM := Lib.hid hm
  have HR := Lib.hid hR
  have HSL := Lib.hid hsl
  clear hm hR hsl
  go_enter Tryd.func14, Tryd.ntmps14
  go_wp2_with fail
  go_loop [3, 4] (fun n i => ∃ k s : Nat, i = .int .i64 (k : Int) ∧ k ≤ m ∧ n = .int .i64 (s : Int) ∧ s ≤ 9000 ∧ Hid (s = lens (l.take k))) (fun _ i => m - (intOf i).toNat)
  case atStart => exact ⟨0, 0, rfl, Nat.zero_le _, rfl, by omega, rfl⟩
  case round =>
    obtain ⟨k, s, rfl, hk, rfl, hs, HS⟩ := hrel
    by_cases hlt : k < m
    · have hkl : k < l.length := by rw [HM.out]; exact hlt
      obtain ⟨b, o, rfl, hbl, hc⟩ := HR.out.at_ (by rw [List.length_map]; omega)
      have r0 := hc k _ (rowsV_get hkl)
      have hb := HSL.out _ (List.getElem_mem hkl)
      have HST : Hid (s + l[k].2.2.length = lens (l.take (k + 1))) := Lib.hid (by rw [lens_take hkl, HS.out])
      clear hc
      generalize l[k].2.2.length = x at *
      generalize l[k].1 = A at *
      generalize l[k].2.1 = d at *
      by_cases h9 : s + x ≤ 9000
      · have h1 : ¬ (9000 : Int) < (s : Int) + (x : Int) := by omega
        go_wp2_with fail
        go_round
        case rel => exact ⟨k + 1, s + x, by go_num, by omega, by go_num, h9, HST.out⟩
        case measure => simp [intOf] <;> omega
      · have h1 : (9000 : Int) < (s : Int) + (x : Int) := by omega
        go_wp2_with fail
        go_ret
        exact ⟨rfl, .inl rfl⟩
    · have hkm : k = m := by omega
      have HF : Hid (lens l ≤ 9000) := Lib.hid (by
        have := HS.out
        rw [hkm, List.take_of_length_le (by have := HM.out; omega)] at this
        omega)
      clear hkm
      go_wp2_with fail
      go_ret
      exact ⟨rfl, .inr ⟨HF.out, rfl⟩⟩
end Go.Proofs.YtkkkblghihheeaaDoor
