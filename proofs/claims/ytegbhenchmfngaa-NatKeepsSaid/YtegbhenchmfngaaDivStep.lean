/- nat.divStep: one word of a quotient. -/
import Derived.Test.YtegbhenchmfngaaGuess
import Derived.Test.YtegbhenchmfngaaTakeTimes
import Derived.Test.YtegbhenchmfngaaAddTimes
import Derived.Deep.RegionWith
namespace Go.Proofs.Ytegbhenchmfngaa
open Go.RowKit

set_option maxHeartbeats 1000000 in
theorem divStep_any (g o c L : Nat) (F : Nat → Nat) (B : Option Addr) (m d V D : Nat) (w : World) (hr : RowN w g L F) (hl : o + (m + 1) ≤ L) (hL : L ≤ 1152921504606846976) (hB : IsNat w B m D) (hne : 0 < m → ∀ b' o', B = some ⟨b', o', none⟩ → b' ≠ g) (hm : 2 ≤ m)
    (hF : ∀ j, j < m + 1 → F (o + j) = Nt.dig V j) (hV : V < D * Nt.K) (hn : Nt.pw m ≤ 2 * D) :
    Calls Try.prog 67 #[.slice (some ⟨g, o, none⟩) (m + 1) c, .slice B m d] w fun e w' => e = .returned (.int .u32 (V / D : Nat)) ∧
      ∃ F', RowN w' g L F' ∧ (∀ j, j < m → F' (o + j) = Nt.dig (V % D) j) ∧ (∀ j, j < o ∨ o + m ≤ j → F' j = F j) ∧ Only g w w' := by
  have hD := hB.1
  have hVm : V < Nt.pw (m + 1) := by
    rw [Nt.pw_succ]
    exact Nat.lt_of_lt_of_le hV (Nat.mul_le_mul_right _ (Nat.le_of_lt hD))
  have hD0 : 0 < D := by have := Nt.pw_pos m; omega
  have HG := Lib.hid (guess_any g o c L F B m d V D w hr hl hL hB hm hF hV hVm hn)
  have hlow : ∀ j, j < m → F (o + j) = Nt.dig (V % Nt.pw m) j := fun j hj => by rw [hF j (by omega), Nt.dig_mod_pw hj]
  have hdm : Nt.dig V m = V / Nt.pw m := Nat.mod_eq_of_lt (Nt.div_lt_K hVm)
  have r0 := hr.cell (i := o + m) (by omega)
  rw [hF m (by omega), hdm] at r0
  have hFm : F (o + m) = V / Nt.pw m := by rw [hF m (by omega), hdm]
  have htk : ∀ (t : Nat) (wd : World), t < 4294967296 → RowN wd g L F → IsNat wd B m D → Calls Try.prog 47 #[.slice (some ⟨g, o, none⟩) (m + 1) c, .slice B m d, .int .u32 t] wd fun e w' => ∃ R br : Nat, R < Nt.pw m ∧ R + D * t = V % Nt.pw m + br * Nt.pw m ∧ br < Nt.K ∧ e = .returned (.int .u32 br) ∧
      RowN w' g L (fun j => if o ≤ j ∧ j < o + m then Nt.dig R (j - o) else F j) ∧ Only g wd w' := fun t wd ht hrw hBw =>
    takeTimes_any g o (m + 1) c L F B m d (V % Nt.pw m) D t wd hrw hl (by omega) hBw hne (Nt.mod_lt_pw _ _) hlow ht hL
  obtain ⟨tp, htp⟩ : ∃ tp : Nat, tp = V / Nt.pw m := ⟨_, rfl⟩
  rw [← htp] at r0 hFm
  have HTP := Lib.hid htp
  have htpb : tp < 4294967296 := by rw [htp]; exact Nt.div_lt_K hVm
  clear htp
  have HTK := Lib.hid htk
  have HFM := Lib.hid hFm
  clear htk hF hlow hdm hVm hFm hV
  go_enter Try.func67, Try.ntmps67
  go_wp2_with fail
  refine HG.out.mono ?_
  rintro e wq ⟨t, rfl, ht, htb, q, rfl⟩
  have HA := Lib.hid (HTK.out t (w.drewN q).drew htb hr hB)
  clear HG HTK
  go_wp2_with fail
  go_region_with (go_at_call 47; refine (HA.out).mono ?_; rintro e w2 ⟨R, br, hR, hE, hbr, rfl, hrow2, hok2⟩; have s1 := hrow2.cell (i := o + m) (by omega); rw [if_neg (by omega), HFM.out] at s1; have HE := Lib.hid hE; clear hE)
  all_goals
    rw [Nt.K_eq] at hbr
    rcases ht with ht | ht
    · obtain ⟨e1, e2⟩ := Nt.step_low hR (Nat.le_of_lt hD) hD0 ht HE.out
      rw [← HTP.out] at e2
      subst e2
      have hlt : ¬ (br : Int) < (br : Int) := by omega
      have E1 := Lib.hid e1
      have HT := Lib.hid ht
      clear e1 ht
      go_wp2_with fail
      go_ret
      refine ⟨ret_int (by rw [HT.out]; simp), _, hrow2, fun j hj => ?_, fun j hj => ?_, ((Only.refl g w).drewN q).drew.trans hok2⟩
      · rw [if_pos (by omega), Nat.add_sub_cancel_left, E1.out]
      · rw [if_neg (by omega)]
    · obtain ⟨e1, e2⟩ := Nt.step_high hR (Nat.le_of_lt hD) hD0 ht HE.out
      rw [← HTP.out] at e2
      subst e2
      have hlt : (tp : Int) < ((tp + 1 : Nat) : Int) := by omega
      have hB2 := hok2.nat (((hB.drewN q)).drew) hne
      have HA2 := Lib.hid (addTimes_any g o (m + 1) c L _ B m d R D 1 w2 hrow2 hl (by omega) hB2 hne hR (fun j hj => by rw [if_pos (by omega), Nat.add_sub_cancel_left]) (by decide) hL)
      have ht1 : 1 ≤ t := by rw [ht]; exact Nat.le_add_left 1 _
      have E1 := Lib.hid e1
      have HT := Lib.hid ht
      clear e1 ht
      go_wp2_with (go_at_call 56; refine (HA2.out).mono ?_; rintro e w3 ⟨rfl, hrow3, hok3⟩)
      go_ret
      refine ⟨ret_int (by rw [HT.out]; simp), _, hrow3, fun j hj => ?_, fun j hj => ?_, (((Only.refl g w).drewN q).drew.trans hok2).trans hok3⟩
      · rw [if_pos (by omega), Nat.add_sub_cancel_left, Nat.mul_one, E1.out, Nt.dig_add_pw_lt _ _ hj]
      · rw [if_neg (by omega), if_neg (by omega)]
end Go.Proofs.Ytegbhenchmfngaa
