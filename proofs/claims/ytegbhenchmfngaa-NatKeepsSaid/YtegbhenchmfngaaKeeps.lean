/- NatKeeps: what is handed in stays; what is answered is new memory. -/
import Derived.Test.YtegbhenchmfngaaKeepKit
import Derived.Test.YtegbhenchmfngaaRef6
namespace Go.Proofs.Ytegbhenchmfngaa
open Go.RowKit

theorem keeps_long (A B : Option Addr) (n c m d : Nat) (z : Int) (w : World) (h : 80 < n ∨ 80 < m) :
    Calls Try.prog 11 #[.slice A n c, .slice B m d, .int .i8 z] w fun e w' => e = .returned (.bool true) ∧ Below w.heap.size w w' := by
  have HL := fun w => long2 A B n c m d w true ⟨fun _ => h, fun _ => rfl⟩
  clear h
  go_enter Try.func11, Try.ntmps11
  go_wp2_with fail
  refine (awake_any _).mono ?_
  rintro e w0 ⟨rfl, hb0⟩
  go_wp2_with fail
  refine (HL w0).mono ?_
  rintro e w1 ⟨rfl, rfl⟩
  clear HL
  go_wp2_with fail
  go_ret
  exact ⟨rfl, below_alloc hb0 _⟩

set_option maxHeartbeats 4000000 in
theorem keeps_some (A B : Option Addr) (n c m d M N : Nat) (z : Int) (w : World) (hM : IsNat w A n M) (hN : IsNat w B m N) (hA : A = none → n = 0 ∧ c = 0) (hB : B = none → m = 0 ∧ d = 0) (hz1 : -128 ≤ z) (hz2 : z ≤ 127) (hn : n ≤ 80) (hm : m ≤ 80) :
    Calls Try.prog 11 #[.slice A n c, .slice B m d, .int .i8 z] w fun e w' => e = .returned (.bool true) ∧ Below w.heap.size w w' := by
  have SM := Stays.of hM
  have SN := Stays.of hN
  have aMN : Nt.wlen (M * N) ≤ 160 := Nt.wlen_mul hM.1 hN.1 (by omega)
  have aS : Nt.wlen (M + N) ≤ 400 := Nat.le_trans (Nt.wlen_add hM.1 hN.1 hn hm) (by decide)
  have hlong : false = true ↔ 80 < n ∨ 80 < m := ⟨(fun h => by cases h), (fun h => by omega)⟩
  have HL := fun w => long2 A B n c m d w false hlong
  obtain ⟨zc, hzc⟩ : ∃ z : Int, Nt.cmp M N = z := ⟨_, rfl⟩
  have HZ := Lib.hid hzc
  clear hM hN hlong hzc
  go_enter Try.func11, Try.ntmps11
  go_wp2_with fail
  refine (awake_any _).mono ?_
  rintro e w0 ⟨rfl, hb0⟩
  go_wp2_with fail
  refine (HL w0).mono ?_
  rintro e w1 ⟨rfl, rfl⟩
  clear HL
  have zz0 := hb0.size
  have hb1 := below_alloc hb0 (.cells #[.slice A n c, .slice B m d] 23)
  have zy := hb1.size
  go_wp2_with fail
  refine (room_any A n c M _ (SM _ hb1) hA (by omega)).mono ?_
  rintro e wx ⟨gx, cx, rfl, px1, px2, px3, nx, kx1, kx2, g⟩
  have zz1 := (g).size
  have hb2 := below_step hb1 g
  clear g
  have bx := Below.refl wx.heap.size wx
  have qx := World.block_lt_of_cell? _ _ kx1
  have Px1 := Lib.hid px1
  go_wp2_with fail
  refine (room_any B m d N _ (SN _ hb2) hB (by omega)).mono ?_
  rintro e wv ⟨gv, cv, rfl, pv1, pv2, pv3, nv, kv1, kv2, g⟩
  have zz2 := (g).size
  have hb3 := below_step hb2 g
  have bx := below_step bx g
  clear g
  have bv := Below.refl wv.heap.size wv
  have qv := World.block_lt_of_cell? _ _ kv1
  have Pv1 := Lib.hid pv1
  go_wp2_with fail
  refine (divmod_new _ _ _ _ _ _ M N _ (nx.below bx) (nv.below bv) (by omega) (by omega) (by omega) (by omega) (by omega)).mono ?_
  rintro e wq ⟨Aq, nq, cq, Ar, nr, cr, Eq, rfl, Nq, Nr, apq, g⟩
  have zz3 := (g).size
  have hb4 := below_step hb3 g
  have bx := below_step bx g
  have bv := below_step bv g
  clear g
  have bq := Below.refl wq.heap.size wq
  go_wp2_with fail
  refine (shift_new _ _ _ M z _ (nx.below bx) (by omega) (by omega) (by omega)).mono ?_
  rintro e ws ⟨As, ns, cs, Es, rfl, Ns, g⟩
  have zz4 := (g).size
  have hb5 := below_step hb4 g
  have bx := below_step bx g
  have bv := below_step bv g
  have bq := below_step bq g
  clear g
  have bs := Below.refl ws.heap.size ws
  go_wp2_with fail
  refine (compare_b _ _ _ _ _ _ M N _ zc HZ.out (nx.below bx) (nv.below bv) (by omega) (by omega) (by omega) (by omega)).mono ?_
  rintro e v1 ⟨rfl, g⟩
  have zz5 := (g).size
  have hb6 := below_step hb5 g
  have bx := below_step bx g
  have bv := below_step bv g
  have bq := below_step bq g
  have bs := below_step bs g
  clear g
  go_wp2_with fail
  refine (bits_any _ _ _ M _ (nx.below bx) (by omega) (by omega) (by omega)).mono ?_
  rintro e v8 ⟨rfl, rfl⟩
  go_wp2_with fail
  refine (small_plain _ _ _ M _ (nx.below bx) (by omega) (by omega)).mono ?_
  rintro e v8 ⟨sv, st, rfl, rfl⟩
  go_wp2_with fail
  refine (decimal_any _ _ _ M _ (nx.below bx) (by omega) (by omega) (by omega)).mono ?_
  rintro e v9 ⟨dl, _, rfl, g⟩
  have zz6 := (g).size
  have hb7 := below_step hb6 g
  have bx := below_step bx g
  have bv := below_step bv g
  have bq := below_step bq g
  have bs := below_step bs g
  clear g
  go_wp2_with fail
  refine (mul_any _ _ _ _ _ _ M N _ (nx.below bx) (nv.below bv) (by omega) (by omega) (by omega) (by omega) (by omega) (by omega)).mono ?_
  rintro e wa ⟨Aa, ca, rfl, oa, g⟩
  have zz7 := (g).size
  have hb8 := below_step hb7 g
  have bx := below_step bx g
  have bv := below_step bv g
  have bq := below_step bq g
  have bs := below_step bs g
  clear g
  have ba := Below.refl wa.heap.size wa
  have la := oa.le
  have ma := oa.small
  go_wp2_with fail
  refine (norm_any _ _ _ M _ (nx.below bx) (by omega) (by omega) (by omega)).mono ?_
  rintro e wp0 ⟨Ap0, cp0, rfl, op0, g⟩
  have zz8 := (g).size
  have hb9 := below_step hb8 g
  have bx := below_step bx g
  have bv := below_step bv g
  have bq := below_step bq g
  have bs := below_step bs g
  have ba := below_step ba g
  clear g
  have bp0 := Below.refl wp0.heap.size wp0
  have lp0 := op0.le
  have mp0 := op0.small
  go_wp2_with fail
  refine (add_any _ _ _ _ _ _ M N _ (nx.below bx) (nv.below bv) (by omega) (by omega)).mono ?_
  rintro e wp1 ⟨Ap1, cp1, rfl, op1, g⟩
  have zz9 := (g).size
  have hb10 := below_step hb9 g
  have bx := below_step bx g
  have bv := below_step bv g
  have bq := below_step bq g
  have bs := below_step bs g
  have ba := below_step ba g
  have bp0 := below_step bp0 g
  clear g
  have bp1 := Below.refl wp1.heap.size wp1
  have lp1 := op1.le
  have mp1 := op1.small
  go_wp2_with fail
  refine (monus_any _ _ _ _ _ _ M N _ (nx.below bx) (nv.below bv) (by omega) (by omega) (by omega) (by omega) (by omega)).mono ?_
  rintro e wp2 ⟨Ap2, cp2, rfl, op2, g⟩
  have zz10 := (g).size
  have hb11 := below_step hb10 g
  have bx := below_step bx g
  have bv := below_step bv g
  have bq := below_step bq g
  have bs := below_step bs g
  have ba := below_step ba g
  have bp0 := below_step bp0 g
  have bp1 := below_step bp1 g
  clear g
  have bp2 := Below.refl wp2.heap.size wp2
  have lp2 := op2.le
  have mp2 := op2.small
  go_wp2_with fail
  refine (mul_any _ _ _ _ _ _ M N _ (nx.below bx) (nv.below bv) (by omega) (by omega) (by omega) (by omega) (by omega) (by omega)).mono ?_
  rintro e wp3 ⟨Ap3, cp3, rfl, op3, g⟩
  have zz11 := (g).size
  have hb12 := below_step hb11 g
  have bx := below_step bx g
  have bv := below_step bv g
  have bq := below_step bq g
  have bs := below_step bs g
  have ba := below_step ba g
  have bp0 := below_step bp0 g
  have bp1 := below_step bp1 g
  have bp2 := below_step bp2 g
  clear g
  have bp3 := Below.refl wp3.heap.size wp3
  have lp3 := op3.le
  have mp3 := op3.small
  go_wp2_with fail
  refine (norm_any _ _ _ M _ (nx.below bx) (by omega) (by omega) (by omega)).mono ?_
  rintro e wp7 ⟨Ap7, cp7, rfl, op7, g⟩
  have zz12 := (g).size
  have hb13 := below_step hb12 g
  have bx := below_step bx g
  have bv := below_step bv g
  have bq := below_step bq g
  have bs := below_step bs g
  have ba := below_step ba g
  have bp0 := below_step bp0 g
  have bp1 := below_step bp1 g
  have bp2 := below_step bp2 g
  have bp3 := below_step bp3 g
  clear g
  have bp7 := Below.refl wp7.heap.size wp7
  have lp7 := op7.le
  have mp7 := op7.small
  go_wp2_with fail
  refine (apart_eight _ _ _ _ _ _ _ _ _ _ _ _ _ _ _ _ _ _ _ _ _ _ _ _ _ _ _ _ _ _ _ _ _ _ _ _ _ _ _ ((New.of_own op0).below bp0) ((New.of_own op1).below bp1) ((New.of_own op2).below bp2) ((New.of_own op3).below bp3) (Nq.below bq) (Nr.below bq) (Ns.below bs) ((New.of_own op7).below bp7) apq (by omega) (by omega) (by omega) (by omega) (by omega) (by omega) (by omega) (by omega) (by omega) (by omega) (by omega) (by omega) (by omega)).mono ?_
  rintro e wz ⟨rfl, S, ham, hS⟩
  have hb14 := below_alloc hb13 (.cells #[.slice Ap0 (Nt.wlen M) cp0, .slice Ap1 (Nt.wlen (M + N)) cp1, .slice Ap2 (Nt.wlen (M - N)) cp2, .slice Ap3 (Nt.wlen (M * N)) cp3, .slice Aq nq cq, .slice Ar nr cr, .slice As ns cs, .slice Ap7 (Nt.wlen M) cp7] 23)
  have bx := below_alloc bx (.cells #[.slice Ap0 (Nt.wlen M) cp0, .slice Ap1 (Nt.wlen (M + N)) cp1, .slice Ap2 (Nt.wlen (M - N)) cp2, .slice Ap3 (Nt.wlen (M * N)) cp3, .slice Aq nq cq, .slice Ar nr cr, .slice As ns cs, .slice Ap7 (Nt.wlen M) cp7] 23)
  have bv := below_alloc bv (.cells #[.slice Ap0 (Nt.wlen M) cp0, .slice Ap1 (Nt.wlen (M + N)) cp1, .slice Ap2 (Nt.wlen (M - N)) cp2, .slice Ap3 (Nt.wlen (M * N)) cp3, .slice Aq nq cq, .slice Ar nr cr, .slice As ns cs, .slice Ap7 (Nt.wlen M) cp7] 23)
  have ba := below_alloc ba (.cells #[.slice Ap0 (Nt.wlen M) cp0, .slice Ap1 (Nt.wlen (M + N)) cp1, .slice Ap2 (Nt.wlen (M - N)) cp2, .slice Ap3 (Nt.wlen (M * N)) cp3, .slice Aq nq cq, .slice Ar nr cr, .slice As ns cs, .slice Ap7 (Nt.wlen M) cp7] 23)
  have hb9 := hb14.trans (ham.below (B := w.heap.size) fun k hk => by have := hS k hk; omega)
  have bx := bx.trans (ham.below (B := wx.heap.size) fun k hk => by have := hS k hk; omega)
  have bv := bv.trans (ham.below (B := wv.heap.size) fun k hk => by have := hS k hk; omega)
  have nz := ham.nat (oa.nat.below ba) (fun h b o e hs => by have h1 := (New.of_own oa).at_ e; have h2 := hS b hs; omega)
  have bz := Below.refl wz.heap.size wz
  clear hS ham ba oa Nq Nr Ns apq
  go_wp2_with fail
  refine (kept_any gx cx n c M A _ (nx.below bx) (SM _ hb9) Px1.out px2 (by omega) ((bx.cell (p := ⟨gx, n, none⟩) qx).trans kx1) ((bx.cell (p := ⟨gx, n + 1, none⟩) qx).trans kx2)).mono ?_
  rintro e v2 ⟨rfl, g⟩
  have zz13 := (g).size
  have hb91 := below_step hb9 g
  have bx := below_step bx g
  have bv := below_step bv g
  have bz := below_step bz g
  clear g
  go_wp2_with fail
  refine (kept_any gv cv m d N B _ (nv.below bv) (SN _ hb91) Pv1.out pv2 (by omega) ((bv.cell (p := ⟨gv, m, none⟩) qv).trans kv1) ((bv.cell (p := ⟨gv, m + 1, none⟩) qv).trans kv2)).mono ?_
  rintro e v3 ⟨rfl, g⟩
  have zz14 := (g).size
  have hb92 := below_step hb91 g
  have bx := below_step bx g
  have bv := below_step bv g
  have bz := below_step bz g
  clear g
  go_wp2_with fail
  refine (rmul_any _ _ _ _ _ _ M N _ (SM _ hb92) (SN _ hb92) (by omega) (by omega)).mono ?_
  rintro e wr1 ⟨Ar1, cr1, rfl, nr1, lr1, mr1, g⟩
  have zz15 := (g).size
  have hb93 := below_step hb92 g
  have bx := below_step bx g
  have bv := below_step bv g
  have bz := below_step bz g
  clear g
  have br1 := Below.refl wr1.heap.size wr1
  go_wp2_with fail
  refine (same_one _ _ _ _ _ _ (M * N) (M * N) _ rfl rfl rfl (nz.below bz) (nr1.below br1) (by omega)).mono ?_
  rintro e v4 ⟨rfl, g⟩
  have zz16 := (g).size
  have hb94 := below_step hb93 g
  have bx := below_step bx g
  have bv := below_step bv g
  have bz := below_step bz g
  have br1 := below_step br1 g
  clear g
  go_wp2_with fail
  refine (add_any _ _ _ _ _ _ M N _ (nx.below bx) (nv.below bv) (by omega) (by omega)).mono ?_
  rintro e wy2 ⟨Ay2, cy2, rfl, oy2, g⟩
  have zz17 := (g).size
  have hb95 := below_step hb94 g
  have bx := below_step bx g
  have bv := below_step bv g
  have bz := below_step bz g
  have br1 := below_step br1 g
  clear g
  have by2 := Below.refl wy2.heap.size wy2
  have ly2 := oy2.le
  have my2 := oy2.small
  go_wp2_with fail
  refine (radd_any _ _ _ _ _ _ M N _ (SM _ hb95) (SN _ hb95) (by omega) (by omega)).mono ?_
  rintro e wr2 ⟨Ar2, cr2, rfl, nr2, lr2, mr2, g⟩
  have zz18 := (g).size
  have hb96 := below_step hb95 g
  have bx := below_step bx g
  have bv := below_step bv g
  have bz := below_step bz g
  have br1 := below_step br1 g
  have by2 := below_step by2 g
  clear g
  have br2 := Below.refl wr2.heap.size wr2
  go_wp2_with fail
  refine (same_one _ _ _ _ _ _ (M + N) (M + N) _ rfl rfl rfl (oy2.nat.below by2) (nr2.below br2) (by omega)).mono ?_
  rintro e v5 ⟨rfl, g⟩
  have zz19 := (g).size
  have hb97 := below_step hb96 g
  have bx := below_step bx g
  have bv := below_step bv g
  have bz := below_step bz g
  have br1 := below_step br1 g
  have by2 := below_step by2 g
  have br2 := below_step br2 g
  clear g
  go_wp2_with fail
  go_ret
  exact ⟨rfl, hb97⟩

theorem keeps_any (A B : Option Addr) (n c m d M N : Nat) (z : Int) (w : World) (hM : IsNat w A n M) (hN : IsNat w B m N) (hA : A = none → n = 0 ∧ c = 0) (hB : B = none → m = 0 ∧ d = 0) (hz1 : -128 ≤ z) (hz2 : z ≤ 127) :
    Calls Try.prog 11 #[.slice A n c, .slice B m d, .int .i8 z] w fun e w' => e = .returned (.bool true) ∧ Below w.heap.size w w' := by
  by_cases h : 80 < n ∨ 80 < m
  · exact keeps_long A B n c m d z w h
  · exact keeps_some A B n c m d M N z w hM hN hA hB hz1 hz2 (by omega) (by omega)
end Go.Proofs.Ytegbhenchmfngaa
