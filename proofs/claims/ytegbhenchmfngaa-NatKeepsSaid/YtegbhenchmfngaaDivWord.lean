/- nat.divWord: a row's number divided by a word, in its own words. -/
import Derived.Test.YtegbhenchmfngaaMem
namespace Go.Proofs.Ytegbhenchmfngaa
open Go.RowKit

set_option maxHeartbeats 400000 in
theorem divWord_any (g n c L : Nat) (F : Nat → Nat) (M W : Nat) (w : World) (hr : RowN w g L F) (hl : n ≤ L) 
    (hM : M < Nt.pw n) (hF : ∀ j, j < n → F j = Nt.dig M j) (hW : W < 4294967296) (hW0 : 0 < W) (hL : L ≤ 1152921504606846976) :
    Calls Try.prog 52 #[.slice (some ⟨g, 0, none⟩) n c, .int .u32 W] w fun e w' => e = .returned (.int .u32 (M % W : Nat)) ∧
      RowN w' g L (fun j => if j < n then Nt.dig (M / W) j else F j) ∧ Only g w w' := by
  go_enter Try.func52, Try.ntmps52
  go_wp2
  go_loopw [5, 10] (fun rs i wr => ∃ k : Nat, k ≤ n ∧ i = .int .i64 k ∧ rs = .int .u64 (M / Nt.pw (n - k) % W : Nat) ∧
    RowN wr g L (fun j => if n - k ≤ j ∧ j < n then Nt.dig (M / W) j else F j) ∧ Only g w wr) (fun _ i _ => n - (intOf i).toNat)
  case atStart =>
    refine ⟨0, Nat.zero_le _, rfl, by rw [Nat.sub_zero, Nt.div_pw_of_lt hM]; simp, hr.congr fun j _ => ?_, Only.refl _ _⟩
    rw [if_neg (by omega)]
  case round =>
    obtain ⟨k, hk, rfl, rfl, hrk, hok⟩ := hrel
    by_cases hlt : k < n
    · have h2 := hrk.cell (i := n - 1 - k) (by omega)
      rw [if_neg (by omega), hF _ (by omega)] at h2
      have h3 := hrk.frozen (n - 1 - k)
      have hrs : M / Nt.pw (n - k) % W < W := Nat.mod_lt _ hW0
      have hd := Nt.dig_lt M (n - 1 - k)
      generalize hrr : M / Nt.pw (n - k) % W = rs at *
      generalize hyy : Nt.dig M (n - 1 - k) = y at *
      obtain ⟨s, hs⟩ : ∃ s : Nat, s = rs * 4294967296 + y := ⟨_, rfl⟩
      have e1 : bits .or .u64 ((rs : Int) * 4294967296) (y : Int) = (s : Int) := by rw [hs]; exact or_u64_word (by omega) hd
      have hsb : s ≤ 18446744073709551615 := by omega
      obtain ⟨q, hq⟩ : ∃ q : Nat, q = s / W := ⟨_, rfl⟩
      obtain ⟨r, hr'⟩ : ∃ r : Nat, r = s % W := ⟨_, rfl⟩
      obtain ⟨q1, q2, q3⟩ := Nt.divWord_step (M := M) (i := n - 1 - k) (rs := rs) (s := s) hW0 (by rw [← hrr, show n - 1 - k + 1 = n - k from by omega]) (by rw [hs, hyy, Nt.K_eq])
      rw [← hq] at q2 q3
      rw [← hr'] at q1
      rw [Nt.K_eq] at q3
      have e2 : (s : Int) / (W : Int) = (q : Int) := by rw [hq]; simp
      have e3 : (s : Int) % (W : Int) = (r : Int) := by rw [hr']; simp
      have HQ1 := Lib.hid q1
      have HQ2 := Lib.hid q2
      have HE3 := Lib.hid e3
      clear hrr hyy hs hq hr' q1 q2 e3
      go_wp2_with fail
      clear e1 e2
      go_roundw
      case rel =>
        refine ⟨k + 1, by omega, by go_num, congrArg (Value.int .u64) (by rw [HE3.out, ← HQ1.out, show n - (k + 1) = n - 1 - k from by omega]), (hrk.set_ (n - 1 - k) q).congr fun j _ => ?_, hok.set_ _ _⟩
        by_cases e : j = n - 1 - k
        · subst e
          rw [if_pos rfl, if_pos (by omega), HQ2.out]
        · rw [if_neg e]
          by_cases h : n - k ≤ j ∧ j < n
          · rw [if_pos h, if_pos (by omega)]
          · rw [if_neg h, if_neg (by omega)]
      case measure => simp [intOf] <;> omega
    · have hk' : k = n := by omega
      subst hk'
      rw [Nat.sub_self, Nt.pw_zero, Nat.div_one] at *
      have hrs : M % W < W := Nat.mod_lt _ hW0
      generalize hrr : M % W = rs at *
      have HR := Lib.hid hrr
      clear hrr
      go_wp2_with fail
      go_ret
      exact ⟨ret_int (by rw [HR.out]), hrk.congr fun j _ => by
        by_cases h : j < k
        · rw [if_pos ⟨Nat.zero_le _, h⟩, if_pos h]
        · rw [if_neg (by omega), if_neg h], hok⟩

end Go.Proofs.Ytegbhenchmfngaa
