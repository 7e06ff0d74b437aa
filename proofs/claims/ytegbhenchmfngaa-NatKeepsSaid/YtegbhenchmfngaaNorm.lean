/- nat.Norm: new memory that holds the same number. -/
import Derived.Test.YtegbhenchmfngaaMem
import Derived.Test.YtegbhenchmfngaaTrim
namespace Go.Proofs.Ytegbhenchmfngaa
open Go.RowKit

set_option maxHeartbeats 400000 in
theorem norm_any (A : Option Addr) (n c N : Nat) (w : World) (h : IsNat w A n N) (hc : n ≤ c) (hm : c ≤ 9223372036854775807) (hn : n ≤ 1099511627776) :
    Calls Try.prog 15 #[.slice A n c] w fun e w' => ∃ A' c', e = .returned (.slice A' (Nt.wlen N) c') ∧ Own w.heap.size w' A' (Nt.wlen N) c' N ∧ Below w.heap.size w w' := by
  have hl := h.wl
  have hmk := run_make_row' (P := Try.prog) 23 44 (.int .u32 0) 4 Try.underlying23 info44 rfl .i64 .i64 (Nt.wlen N) (by omega) (by omega)
  have ht := h.trim
  have hsz : (Try.prog.info? 44).map (·.size) = some 1 := by kernel_rfl
  go_enter Try.func15, Try.ntmps15
  go_wp2_with (first
    | (go_at_call 42; refine (trim_any _ _ _ N _ h hc hm).mono ?_; rintro e w' ⟨rfl, rfl⟩)
    | (refine wpList_copy_nat rfl _ _ _ _ rfl 44 Try.underlying23 hsz w.heap.size 0 (Nt.wlen N) _ _ _ A (Nt.wlen N) _ N rfl rfl (RowN.made _ _) (ht.alloc _) (by omega) w.heap.size w ((Below.refl _ _).alloc (Nat.le_refl _) _) (Nat.le_refl _) ?_; intro w2 hr2 hb2))
  go_ret
  refine ⟨_, _, rfl, Own.of_row hr2 (Nat.le_refl _) (by omega) (Nat.le_refl _) (Nt.lt_pw_wlen N) fun j hj => ?_, hb2⟩
  rw [if_pos (by omega), Nat.sub_zero]

end Go.Proofs.Ytegbhenchmfngaa
