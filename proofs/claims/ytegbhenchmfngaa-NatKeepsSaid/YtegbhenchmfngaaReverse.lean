/- slices.Reverse at []byte. -/
import Derived.Test.YtegbhenchmfngaaMem
namespace Go.Proofs.Ytegbhenchmfngaa
open Go.RowKit

set_option maxHeartbeats 800000 in
theorem reverse_any (g n c L : Nat) (F : Nat → Nat) (G : Nat → Value) (w : World) (hr : w.rowIs g 5 L G) (hF : ∀ j, j < n → G j = .int .u8 (F j)) (hn0 : 0 < n) (hn : n ≤ L) (hL : L ≤ 9223372036854775807) :
    Calls Try.prog 62 #[.slice (some ⟨g, 0, none⟩) n c] w fun e w' => e = .returned (.tuple #[]) ∧ ∃ G', w'.rowIs g 5 L G' ∧ (∀ j, j < n → G' j = .int .u8 (F (n - 1 - j))) ∧ Only g w w' := by
  go_enter Try.func62, Try.ntmps62
  go_wp2
  go_loopw [2, 3] (fun i j wr => ∃ (k : Nat) (G' : Nat → Value), i = .int .i64 k ∧ j = .int .i64 ((n : Int) - 1 - k) ∧ 2 * k ≤ n + 1 ∧ wr.rowIs g 5 L G' ∧ (∀ p, p < n → G' p = .int .u8 (if p < k ∨ n - 1 - k < p then F (n - 1 - p) else F p)) ∧ Only g w wr) (fun i _ _ => n - (intOf i).toNat)
  case atStart => exact ⟨0, G, rfl, by simp, by omega, hr, fun p hp => by rw [if_neg (by omega)]; exact hF p hp, Only.refl _ _⟩
  case round =>
    obtain ⟨k, G', rfl, rfl, hk, hrk, hG, hok⟩ := hrel
    by_cases hlt : 2 * k < n - 1
    · have a1 := hrk.cell (i := k) (by omega)
      have a2 := hrk.cell (i := n - 1 - k) (by omega)
      rw [hG _ (by omega), if_neg (by omega)] at a1 a2
      have a3 := hrk.frozen k
      have a4 := hrk.frozen (n - 1 - k)
      have hkk : (k : Int) < (n : Int) - 1 - k := by omega
      have hne : k ≠ n - 1 - k := by omega
      go_wp2_with fail
      go_region
      all_goals go_wp2_with fail
      go_roundw
      case rel =>
        refine ⟨k + 1, _, by go_num, congrArg (Value.int .i64) (by omega), by omega, ((hrk.set k _).set (n - 1 - k) _).drew, fun p hp => ?_, ((hok.set_ _ _).set_ _ _).drew⟩
        by_cases e1 : p = n - 1 - k
        · subst e1
          rw [if_pos rfl, if_pos (by omega), show n - 1 - (n - 1 - k) = k from by omega]
        · rw [if_neg e1]
          by_cases e2 : p = k
          · subst e2
            rw [if_pos rfl, if_pos (by omega)]
          · rw [if_neg e2, hG p hp]
            by_cases e3 : p < k ∨ n - 1 - k < p
            · rw [if_pos e3, if_pos (by omega)]
            · rw [if_neg e3, if_neg (by omega)]
      case measure => simp [intOf] <;> omega
    · have hkk : ¬ (k : Int) < (n : Int) - 1 - k := by omega
      go_wp2_with fail
      go_end0
      exact ⟨rfl, G', hrk, fun j hj => by
        rw [hG j hj]
        by_cases e : j < k ∨ n - 1 - k < j
        · rw [if_pos e]
        · rw [if_neg e, show n - 1 - j = j from by omega], hok⟩
end Go.Proofs.Ytegbhenchmfngaa
