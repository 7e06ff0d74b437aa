/- nat.DivMod by 0, by a greater number, and by a number of one word. -/
import Derived.Test.YtegbhenchmfngaaNorm
import Derived.Test.YtegbhenchmfngaaCompare
import Derived.Test.YtegbhenchmfngaaDivWord
import Derived.Test.YtegbhenchmfngaaOf
namespace Go.Proofs.Ytegbhenchmfngaa
open Go.RowKit

/-- Two slices that do not begin in one block. -/
def Apart2 (A B : Option Addr) : Prop := ∀ g, A = some ⟨g, 0, none⟩ → B ≠ some ⟨g, 0, none⟩

/-- What a division answers. -/
def DivPost (M N : Nat) (w : World) (e : Ending) (w' : World) : Prop :=
  ∃ A1 c1 A2 c2, e = .returned (.tuple #[.slice A1 (Nt.wlen (M / N)) c1, .slice A2 (Nt.wlen (M % N)) c2, .int .i64 0]) ∧ Own w.heap.size w' A1 (Nt.wlen (M / N)) c1 (M / N) ∧ Own w.heap.size w' A2 (Nt.wlen (M % N)) c2 (M % N) ∧ Apart2 A1 A2 ∧ Below w.heap.size w w'

set_option maxHeartbeats 400000 in
theorem divmod_zero (A B : Option Addr) (n c m d M : Nat) (w : World) (hM : IsNat w A n M) (hN : IsNat w B m 0) (hc : n ≤ c) (hd : m ≤ d) (hcm : c ≤ 9223372036854775807) (hdm : d ≤ 9223372036854775807) :
    Calls Try.prog 23 #[.slice A n c, .slice B m d] w fun e w' => e = .returned (.tuple #[.slice none 0 0, .slice none 0 0, .int .i64 2]) ∧ w = w' := by
  have HM := fun w (h : IsNat w A n M) => trim_any A n c M w h hc hcm
  have HN := fun w (h : IsNat w B m 0) => trim_any B m d 0 w h hd hdm
  have h0 : Nt.wlen 0 = 0 := rfl
  rw [h0] at HN
  clear h0
  go_enter Try.func23, Try.ntmps23
  go_wp2_with fail
  refine (HM _ hM).mono ?_; rintro e w' ⟨rfl, rfl⟩
  go_wp2_with fail
  refine (HN _ hN).mono ?_; rintro e w' ⟨rfl, rfl⟩
  clear HM HN
  go_wp2_with fail
  go_ret3
  exact ⟨rfl, rfl⟩

set_option maxHeartbeats 400000 in
theorem divmod_less (A B : Option Addr) (n c m d M N : Nat) (w : World) (hM : IsNat w A n M) (hN : IsNat w B m N) (hc : n ≤ c) (hd : m ≤ d) (hcm : c ≤ 9223372036854775807) (hdm : d ≤ 9223372036854775807) (hn : n ≤ 1099511627776) (hlt : M < N) :
    Calls Try.prog 23 #[.slice A n c, .slice B m d] w (DivPost M N w) := by
  have HM := fun w (h : IsNat w A n M) => trim_any A n c M w h hc hcm
  have HN := fun w (h : IsNat w B m N) => trim_any B m d N w h hd hdm
  have hMl := hM.wl
  have hNl := hN.wl
  have HC := fun w (hM : IsNat w A n M) (hN : IsNat w B m N) => compare_any A B (Nt.wlen M) c (Nt.wlen N) d M N w hM.trim hN.trim (by omega) (by omega) hcm hdm
  have hcmp : Nt.cmp M N = -1 := Nt.cmp_lt (by omega)
  rw [hcmp] at HC
  have hN0 : 0 < Nt.wlen N := Nat.pos_of_ne_zero fun h => by have := Nt.wlen_eq_zero.1 h; omega
  have HNo := fun w (h : IsNat w A n M) => norm_any A (Nt.wlen M) c M w h.trim (by omega) hcm (by omega)
  have hfin : M / N = 0 ∧ M % N = M := ⟨Nat.div_eq_of_lt hlt, Nat.mod_eq_of_lt hlt⟩
  have HF := Lib.hid hfin
  clear hcmp hlt hfin
  go_enter Try.func23, Try.ntmps23
  go_wp2_with fail
  refine (HM _ hM).mono ?_; rintro e w' ⟨rfl, rfl⟩
  go_wp2_with fail
  refine (HN _ hN).mono ?_; rintro e w' ⟨rfl, rfl⟩
  go_wp2_with fail
  refine (HC _ hM hN).mono ?_; rintro e w' ⟨rfl, q, rfl⟩
  go_wp2_with fail
  refine (HNo _ (hM.drewN q)).mono ?_; rintro e w1 ⟨A', c', rfl, hown, hb⟩
  clear HM HN HC HNo
  go_wp2_with fail
  go_ret3
  refine ⟨none, 0, A', c', ?_, ?_, ?_, (fun g h => by cases h), ⟨hb.os, hb.tape, hb.output, hb.size, hb.block⟩⟩
  · rw [HF.out.1, HF.out.2]; rfl
  · rw [HF.out.1]; exact Own.none_ _ _
  · rw [HF.out.2]; exact hown

set_option maxHeartbeats 400000 in
theorem divmod_word (A B : Option Addr) (n c m d M N : Nat) (w : World) (hM : IsNat w A n M) (hN : IsNat w B m N) (hc : n ≤ c) (hd : m ≤ d) (hcm : c ≤ 9223372036854775807) (hdm : d ≤ 9223372036854775807) (hn : n ≤ 1099511627776) (hle : N ≤ M) (h1 : Nt.wlen N = 1) :
    Calls Try.prog 23 #[.slice A n c, .slice B m d] w (DivPost M N w) := by
  have hNp := Nt.lt_pw_wlen N
  rw [h1] at hNp
  have hNK : N < 4294967296 := by simpa [Nt.pw, Nt.K] using hNp
  have hNpos : 0 < N := Nat.pos_of_ne_zero fun h => by rw [h] at h1; cases h1
  have hd0 : Nt.dig N 0 = N := by unfold Nt.dig; rw [Nt.pw_zero, Nat.div_one]; exact Nat.mod_eq_of_lt hNK
  have HM := fun w (h : IsNat w A n M) => trim_any A n c M w h hc hcm
  have HN := fun w (h : IsNat w B m N) => trim_any B m d N w h hd hdm
  have hMl := hM.wl
  have hNl := hN.wl
  have HC := fun w (hM : IsNat w A n M) (hN : IsNat w B m N) => compare_any A B (Nt.wlen M) c (Nt.wlen N) d M N w hM.trim hN.trim (by omega) (by omega) hcm hdm
  have hcmp : 0 ≤ Nt.cmp M N := by
    rcases Nat.lt_or_ge N M with h | h
    · rw [Nt.cmp_gt (by omega)]; decide
    · rw [Nt.cmp_eq (by omega)]; decide
  have hM0 : 0 < Nt.wlen M := Nat.pos_of_ne_zero fun h => by have := Nt.wlen_eq_zero.1 h; omega
  have HNo := fun w (h : IsNat w A n M) => norm_any A (Nt.wlen M) c M w h.trim (by omega) hcm (by omega)
  rw [h1] at HN HC hNl
  generalize Nt.cmp M N = z at *
  obtain ⟨b, o, rfl, hcell⟩ := hN.2 (by omega)
  have hcb := hcell 0 (by omega)
  rw [hd0, Nat.add_zero] at hcb
  have hbl := World.block_lt_of_cell? _ _ hcb
  have hq : M / N < Nt.pw (Nt.wlen M) := Nat.lt_of_le_of_lt (Nat.div_le_self _ _) (Nt.lt_pw_wlen M)
  have hr : M % N < 4294967296 := Nat.lt_trans (Nat.mod_lt _ hNpos) hNK
  clear hcell hd0 h1 hNp hle
  go_enter Try.func23, Try.ntmps23
  go_wp2_with fail
  refine (HM _ hM).mono ?_; rintro e w' ⟨rfl, rfl⟩
  go_wp2_with fail
  refine (HN _ hN).mono ?_; rintro e w' ⟨rfl, rfl⟩
  go_wp2_with fail
  refine (HC _ hM hN).mono ?_; rintro e w' ⟨rfl, q, rfl⟩
  go_wp2_with fail
  refine (HNo _ (hM.drewN q)).mono ?_; rintro e w1 ⟨A', c', rfl, hown, hb⟩
  clear HM HN HC HNo
  obtain ⟨g, F, rfl, hg, hrow, hF⟩ := hown.row hM0
  have hle := hown.le
  have hsm := hown.small
  have hcb1 : w1.cell? ⟨b, o, none⟩ = some (.int .u32 N) := (hb.cell (p := ⟨b, o, none⟩) hbl).trans hcb
  have hbw : Below w.heap.size w w1 := ⟨hb.os, hb.tape, hb.output, hb.size, hb.block⟩
  have hg' : w.heap.size ≤ g := hg
  clear hb hcb hown hg
  go_wp2_with fail
  have HDW := divWord_any g (Nt.wlen M) c' c' F M N _ hrow hle (Nt.lt_pw_wlen M) hF hNK hNpos hsm
  obtain ⟨r, hrr⟩ : ∃ r, r = M % N := ⟨_, rfl⟩
  rw [← hrr] at HDW hr
  have HR := Lib.hid hrr
  clear hrr
  refine HDW.mono ?_
  rintro e w2 ⟨rfl, hrow2, hok⟩
  have hown2 := Own.of_row (n := Nt.wlen M) (N := M / N) hrow2 hg' hsm hle hq (fun j hj => if_pos hj)
  have hb2 := hok.below hbw hg'
  have hgs := hrow2.lt
  clear hrow hrow2 hok hbw hF hcb1
  go_wp2_with fail
  refine (trim_any _ _ _ (M / N) _ hown2.nat hle (by omega)).mono ?_; rintro e w' ⟨rfl, rfl⟩
  clear HDW
  go_wp2_with fail
  refine (of_any r _ (by omega)).mono ?_; rintro e w3 ⟨A3, c3, rfl, hown3, hb3⟩
  go_wp2_with fail
  go_ret3
  unfold DivPost
  rw [← HR.out]
  refine ⟨_, c', A3, c3, rfl, (hown2.trim).keep hb3, hown3.mono hb2.size, fun g' h e => ?_, hb2.trans (hb3.mono hb2.size)⟩
  cases h
  rcases hown3.fresh with ⟨h, _⟩ | ⟨g3, _, h, hge, _⟩
  · rw [h] at e; cases e
  · rw [h] at e; cases e; omega
end Go.Proofs.Ytegbhenchmfngaa
