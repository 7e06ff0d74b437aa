/- nat.sum and nat.Add: the sum of two numbers. -/
import Derived.Test.YtegbhenchmfngaaMem
import Derived.Test.YtegbhenchmfngaaTrim
namespace Go.Proofs.Ytegbhenchmfngaa
open Go.RowKit

set_option maxHeartbeats 800000 in
theorem sum_any (A B : Option Addr) (n c m d M N gl : Nat) (w : World) (hM : IsNat w A n M) (hN : IsNat w B m N) (hn : n ≤ 1099511627775) (hm : m ≤ 1099511627775)
    (c0 : w.cell? ⟨gl, 0, none⟩ = some (.slice A n c)) (c1 : w.cell? ⟨gl, 1, none⟩ = some (.slice B m d)) :
    Calls Try.prog 45 #[.slice (some ⟨gl, 0, none⟩) 2 2] w fun e w' => ∃ A' c', e = .returned (.slice A' (Nt.wlen (M + N)) c') ∧ Own w.heap.size w' A' (Nt.wlen (M + N)) c' (M + N) ∧ Below w.heap.size w w' := by
  go_enter Try.func45, Try.ntmps45
  go_wp2
  go_loop [3, 13] (fun l i => ∃ k z : Nat, i = .int .i64 k ∧ l = .int .i64 z ∧ (k = 0 ∧ z = 0 ∨ k = 1 ∧ z = n ∨ k = 2 ∧ z = max n m)) (fun _ i => 2 - (intOf i).toNat)
  case atStart => exact ⟨0, 0, rfl, rfl, .inl ⟨rfl, rfl⟩⟩
  case round =>
    obtain ⟨k, z, rfl, rfl, h⟩ := hrel
    rcases h with ⟨rfl, rfl⟩ | ⟨rfl, rfl⟩ | ⟨rfl, hz⟩
    · go_wp2_with fail
      go_round
      case rel => exact ⟨1, n, rfl, congrArg (Value.int .i64) (by split <;> omega), .inr (.inl ⟨rfl, rfl⟩)⟩
      case measure => simp [intOf] <;> omega
    · go_wp2_with fail
      go_round
      case rel => exact ⟨2, max z m, rfl, congrArg (Value.int .i64) (by split <;> omega), .inr (.inr ⟨rfl, rfl⟩)⟩
      case measure => simp [intOf] <;> omega
    · have hmz : m ≤ z := by omega
      have hnz : n ≤ z := by omega
      have hzb : z ≤ 1099511627775 := by omega
      clear hz
      have hmk := make_words (z + 1) (by omega) ((z : Int) + 1) (by omega) (by omega)
      go_wp2_with fail
      clear hmk
      have hgl : gl < w.heap.size := World.block_lt_of_cell? _ _ c0
      have hM1 := hM.alloc (.cells (madeCells #[.int .u32 0] (z + 1)) 44)
      have hN1 := hN.alloc (.cells (madeCells #[.int .u32 0] (z + 1)) 44)
      have hrow := RowN.made w (z + 1)
      have c0' : (w.alloc (.cells (madeCells #[.int .u32 0] (z + 1)) 44)).cell? ⟨gl, 0, none⟩ = some (.slice A n c) := (World.cell?_alloc_lt w _ _ hgl).trans c0
      have c1' : (w.alloc (.cells (madeCells #[.int .u32 0] (z + 1)) 44)).cell? ⟨gl, 1, none⟩ = some (.slice B m d) := (World.cell?_alloc_lt w _ _ hgl).trans c1
      have hbw : Below w.heap.size w (w.alloc (.cells (madeCells #[.int .u32 0] (z + 1)) 44)) := (Below.refl _ _).alloc (Nat.le_refl _) _
      generalize w.alloc (.cells (madeCells #[.int .u32 0] (z + 1)) 44) = w1 at *
      have hMz := Nat.lt_of_lt_of_le hM.1 (Nt.pw_mono hnz)
      have hNz := Nat.lt_of_lt_of_le hN.1 (Nt.pw_mono hmz)
      go_loopw [7, 26] (fun cy i wr => ∃ k y : Nat, k ≤ z ∧ i = .int .i64 k ∧ cy = .int .u64 y ∧ y = Nt.addT M N 1 k / Nt.pw k ∧
        RowN wr w.heap.size (z + 1) (fun j => if 0 ≤ j ∧ j < 0 + k then Nt.dig (Nt.addT M N 1 k) (j - 0) else 0) ∧ Only w.heap.size w1 wr) (fun _ i _ => z - (intOf i).toNat)
      case atStart =>
        exact ⟨0, 0, Nat.zero_le _, rfl, rfl, by rw [Nt.addT_zero]; rfl, hrow.congr fun j _ => by rw [if_neg (by omega)], Only.refl _ _⟩
      case round =>
        obtain ⟨k, y, hk, rfl, rfl, hy, hrk, hok⟩ := hrel
        have hyb : y < 4294967296 := by rw [hy]; exact Nt.addT_lt (by decide)
        by_cases hlt : k < z
        · have d0 : wr.cell? ⟨gl, 0, none⟩ = some (.slice A n c) := (hok.cell (p := ⟨gl, 0, none⟩) (by show gl ≠ w.heap.size; omega)).trans c0'
          have d1 : wr.cell? ⟨gl, 1, none⟩ = some (.slice B m d) := (hok.cell (p := ⟨gl, 1, none⟩) (by show gl ≠ w.heap.size; omega)).trans c1'
          have hdM := Nt.dig_lt M k
          have hdN := Nt.dig_lt N k
          have cM : k < n → ∃ b o, A = some ⟨b, o, none⟩ ∧ wr.cell? ⟨b, o + k, none⟩ = some (.int .u32 (Nt.dig M k)) := fun h => by
            obtain ⟨b, o, e, hb, hc⟩ := hM.at_ (by omega)
            obtain ⟨b', o', e', hc'⟩ := hM1.2 (by omega)
            rw [e] at e'
            cases e'
            exact ⟨b, o, e, (hok.cell (p := ⟨b, o + k, none⟩) (by show b ≠ w.heap.size; omega)).trans (hc' k h)⟩
          have cN : k < m → ∃ b o, B = some ⟨b, o, none⟩ ∧ wr.cell? ⟨b, o + k, none⟩ = some (.int .u32 (Nt.dig N k)) := fun h => by
            obtain ⟨b, o, e, hb, hc⟩ := hN.at_ (by omega)
            obtain ⟨b', o', e', hc'⟩ := hN1.2 (by omega)
            rw [e] at e'
            cases e'
            exact ⟨b, o, e, (hok.cell (p := ⟨b, o + k, none⟩) (by show b ≠ w.heap.size; omega)).trans (hc' k h)⟩
          have zM : n ≤ k → Nt.dig M k = 0 := fun h => Nt.dig_of_lt (Nat.lt_of_lt_of_le hM.1 (Nt.pw_mono h))
          have zN : m ≤ k → Nt.dig N k = 0 := fun h => Nt.dig_of_lt (Nat.lt_of_lt_of_le hN.1 (Nt.pw_mono h))
          have HN : Hid (∀ s, s = y + (Nt.dig N k * 1 + Nt.dig M k) → Nt.addT M N 1 (k + 1) / Nt.pw (k + 1) = s / Nt.K ∧ Nt.dig (Nt.addT M N 1 (k + 1)) k = s % Nt.K ∧ ∀ j, j < k → Nt.dig (Nt.addT M N 1 (k + 1)) j = Nt.dig (Nt.addT M N 1 k) j) := fun s hs => Nt.addT_next hy.symm hs
          clear hy
          generalize Nt.dig M k = xM at *
          generalize Nt.dig N k = xN at *
          have HcM := Lib.hid cM
          have HcN := Lib.hid cN
          have HzM := Lib.hid zM
          have HzN := Lib.hid zN
          clear cM cN zM zN
          obtain ⟨wo, rfl⟩ : ∃ wo : World, wo = wr := ⟨_, rfl⟩
          go_wp2_with fail
          go_loop [7, 31] (fun l i => ∃ t x : Nat, i = .int .i64 t ∧ l = .int .u64 x ∧ (t = 0 ∧ x = y ∨ t = 1 ∧ x = y + xM ∨ t = 2 ∧ x = y + xM + xN)) (fun _ i => 2 - (intOf i).toNat)
          case atStart => exact ⟨0, y, rfl, rfl, .inl ⟨rfl, rfl⟩⟩
          case round =>
            obtain ⟨t, x, rfl, rfl, h⟩ := hrel
            rcases h with ⟨rfl, rfl⟩ | ⟨rfl, hx⟩ | ⟨rfl, hx⟩
            · by_cases hkn : k < n
              · obtain ⟨b, o, rfl, hce⟩ := HcM.out hkn
                go_wp2_with fail
                go_round
                case rel => exact ⟨1, x + xM, rfl, rfl, .inr (.inl ⟨rfl, rfl⟩)⟩
                case measure => simp [intOf] <;> omega
              · have h0 := HzM.out (by omega)
                subst h0
                go_wp2_with fail
                go_round
                case rel => exact ⟨1, x, rfl, rfl, .inr (.inl ⟨rfl, rfl⟩)⟩
                case measure => simp [intOf] <;> omega
            · have hxb : x ≤ 8589934590 := by omega
              have HX := Lib.hid hx
              clear hx
              by_cases hkn : k < m
              · obtain ⟨b, o, rfl, hce⟩ := HcN.out hkn
                go_wp2_with fail
                go_round
                case rel => exact ⟨2, x + xN, rfl, rfl, .inr (.inr ⟨rfl, by rw [HX.out]⟩)⟩
                case measure => simp [intOf] <;> omega
              · have h0 := HzN.out (by omega)
                subst h0
                go_wp2_with fail
                go_round
                case rel => exact ⟨2, x, rfl, rfl, .inr (.inr ⟨rfl, by rw [HX.out]; rfl⟩)⟩
                case measure => simp [intOf] <;> omega
            · have hxb : x ≤ 12884901885 := by omega
              have HX := Lib.hid hx
              clear hx
              have h2 := hrk.cell (i := k) (by omega)
              rw [if_neg (by omega)] at h2
              have h3 := hrk.frozen k
              go_wp2_with fail
              go_roundw
              case rel =>
                obtain ⟨q1, q2, q3⟩ := HN.out x (by rw [HX.out]; omega)
                have ev : (x : Int) % 4294967296 = ((x % 4294967296 : Nat) : Int) := by omega
                rw [ev]
                have hst := hrk.step (o := 0) (k := k) (D' := Nt.dig (Nt.addT M N 1 (k + 1))) (v := x % 4294967296) (by rw [q2, Nt.K_eq]) q3
                rw [Nat.zero_add] at hst
                exact ⟨k + 1, x / 4294967296, by omega, by go_num, by go_num, by rw [q1, Nt.K_eq], hst, hok.set_ _ _⟩
              case measure => simp [intOf] <;> omega
        · have hk' : k = z := by omega
          subst hk'
          rw [Nt.addT_full hMz hNz, Nat.mul_one] at hy
          rw [Nt.addT_full hMz hNz, Nat.mul_one] at hrk
          have h2 := hrk.cell (i := k) (by omega)
          rw [if_neg (by omega)] at h2
          have h3 := hrk.frozen k
          have hrow2 := hrk.set_ k y
          have hlt2 : M + N < Nt.pw (k + 1) := by
            have h1 := Nt.div_lt_K (S := M + N) (k := k)
            rw [Nt.pw_succ]
            rw [hy, ← Nt.K_eq] at hyb
            exact (Nat.div_lt_iff_lt_mul (Nt.pw_pos k)).1 hyb |> fun h => by rw [Nat.mul_comm]; exact h
          have hdk : Nt.dig (M + N) k = y := by
            rw [hy]
            exact Nat.mod_eq_of_lt (by rw [← hy]; exact hyb)
          have hown := Own.of_row (n := k + 1) (N := M + N) hrow2 (Nat.le_refl w.heap.size) (by omega) (Nat.le_refl _) hlt2 (fun j hj => by
            by_cases e : j = k
            · subst e; rw [if_pos rfl, hdk]
            · rw [if_neg e, if_pos (by omega), Nat.sub_zero])
          have hb2 := (hok.set_ k (.int .u32 y)).below hbw (Nat.le_refl _)
          have HO := Lib.hid hown
          have HB := Lib.hid hb2
          have hnat := hown.nat
          clear hown hb2 hrow2 hdk hy
          go_wp2_with (go_at_call 42; refine (trim_any _ _ _ (M + N) _ hnat (by omega) (by omega)).mono ?_; rintro e w' ⟨rfl, rfl⟩)
          go_ret
          exact ⟨_, _, rfl, HO.out.trim, HB.out⟩

set_option maxHeartbeats 400000 in
theorem add_any (A B : Option Addr) (n c m d M N : Nat) (w : World) (hM : IsNat w A n M) (hN : IsNat w B m N) (hn : n ≤ 1099511627775) (hm : m ≤ 1099511627775) :
    Calls Try.prog 17 #[.slice A n c, .slice B m d] w fun e w' => ∃ A' c', e = .returned (.slice A' (Nt.wlen (M + N)) c') ∧ Own w.heap.size w' A' (Nt.wlen (M + N)) c' (M + N) ∧ Below w.heap.size w w' := by
  go_enter Try.func17, Try.ntmps17
  go_wp2_with (go_at_call 45; refine (sum_any A B n c m d M N _ _ (hM.alloc _) (hN.alloc _) hn hm (by go_simp) (by go_simp)).mono ?_; rintro e w' ⟨A', c', rfl, hown, hb⟩)
  go_ret
  exact ⟨_, _, rfl, hown.mono (by simp), (Below.refl _ _).alloc (Nat.le_refl _) _ |>.trans (hb.mono (by simp))⟩
end Go.Proofs.Ytegbhenchmfngaa
