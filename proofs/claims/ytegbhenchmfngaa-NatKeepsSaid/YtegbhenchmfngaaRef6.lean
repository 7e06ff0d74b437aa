/- The document's bits and products. -/
import Derived.Test.YtegbhenchmfngaaRef5
import Derived.Test.YtegbhenchmfngaaBase9
import Derived.Deep.RegionWith
namespace Go.Proofs.Ytegbhenchmfngaa
open Go.RowKit

/-- Block g is a row of L ints, F j at place j. -/
def RowI (w : World) (g L : Nat) (F : Nat → Nat) : Prop := w.rowIs g 3 L (fun j => .int .i64 (F j))
namespace RowI
variable {w w' : World} {g L o k : Nat} {F G : Nat → Nat}
theorem cell (h : RowI w g L F) {i : Nat} (hi : i < L) : w.cell? ⟨g, i, none⟩ = some (.int .i64 (F i)) := World.rowIs.cell h hi
theorem frozen (h : RowI w g L F) (i : Nat) : w.frozen? ⟨g, i, none⟩ = false := World.rowIs.frozen h i
theorem lt (h : RowI w g L F) : g < w.heap.size := World.rowIs.lt h
theorem congr (h : RowI w g L F) (e : ∀ i, i < L → F i = G i) : RowI w g L G := World.rowIs.congr h fun i hi => by rw [e i hi]
theorem set_ (h : RowI w g L F) (i v : Nat) : RowI (w.setCell ⟨g, i, none⟩ (.int .i64 v)) g L (fun j => if j = i then v else F j) :=
  World.rowIs.congr (World.rowIs.set h i (.int .i64 v)) fun j _ => by by_cases e : j = i <;> simp [e]
theorem of_block (h : RowI w g L F) (e : w'.heap[g]? = w.heap[g]?) : RowI w' g L F := World.rowIs.of_block h e
theorem drew (h : RowI w g L F) : RowI w.drew g L F := h
theorem drewN (h : RowI w g L F) (n : Nat) : RowI (w.drewN n) g L F := h
theorem alloc (h : RowI w g L F) (o : Obj) : RowI (w.alloc o) g L F := World.rowIs.alloc h o
theorem below (h : RowI w g L F) (hb : Below w.heap.size w w') : RowI w' g L F := h.of_block (hb.block g h.lt)
theorem made (w : World) (n : Nat) : RowI (w.alloc (.cells (madeCells #[.int .i64 0] n) 3)) w.heap.size n (fun _ => 0) := World.rowIs_made w (.int .i64 0) n 3
theorem isL (h : RowI w g L F) : IsL w (some ⟨g, 0, none⟩) L F := fun _ => ⟨g, 0, rfl, fun j hj => by rw [Nat.zero_add]; exact h.cell hj⟩
end RowI
theorem make_ints (z : Nat) (hz : z ≤ 1152921504606846976) (x : Int) (hx : x = (z : Int)) (hb : 8 * z ≤ 281474976710656) (w : World) : (Instr.makeSlice 52 (.int .i64 x) (.int .i64 x)).run Try.prog w =
    .ok (.slice (some ⟨w.heap.size, 0, none⟩) z z) (w.alloc (.cells (madeCells #[.int .i64 0] z) 3)) := by
  subst hx
  exact run_make_row' (P := Try.prog) 52 3 (.int .i64 0) 8 Try.underlying52 info3 rfl .i64 .i64 z (by omega) (by omega) w
/-- Another block that holds digits is not touched. -/
theorem Only.digs {g : Nat} {w w' : World} (h : Only g w w') {A : Option Addr} {n N : Nat} (hA : IsD w A n N) (hg : ∀ b o, A = some ⟨b, o, none⟩ → b ≠ g) : IsD w' A n N :=
  ⟨hA.1, fun hn => by
    obtain ⟨b, o, e, hc⟩ := hA.2 hn
    exact ⟨b, o, e, fun j hj => (h.cell (p := ⟨b, o + j, none⟩) (hg b o e)).trans (hc j hj)⟩⟩
theorem digs_far {w : World} {A : Option Addr} {n N g : Nat} (h : IsD w A n N) (hn : 0 < n) (hg : w.heap.size ≤ g) : ∀ b o, A = some ⟨b, o, none⟩ → b ≠ g := fun b o e => by
  obtain ⟨b', o', e', hb, _⟩ := h.2.at_ hn
  rw [e] at e'
  cases e'
  omega

set_option maxHeartbeats 800000 in
theorem bit_any (A : Option Addr) (n c M i : Nat) (w : World) (h : IsD w A n M) (hi : i < 8 * n) (hn : n ≤ 1000000) (b : Nat) (hb : b = M / 2 ^ i % 2) :
    Calls Try.prog 55 #[.slice A n c, .int .i64 i] w fun e w' => e = .returned (.int .i64 (b : Int)) ∧ w = w' := by
  obtain ⟨p, o, rfl, hc⟩ := h.2 (by omega)
  have h1 := hc (i / 8) (by omega)
  have hd := N8.dig_lt M (i / 8)
  have hbit := N8.bit_dig M (i / 8) (i % 8) (by omega)
  rw [show 8 * (i / 8) + i % 8 = i by omega, ← hb] at hbit
  clear hb hc h
  generalize N8.dig M (i / 8) = d at *
  have hdr : d / 2 ^ (i % 8) < 256 := Nat.lt_of_le_of_lt (Nat.div_le_self _ _) hd
  have e1 : bits .and .i64 ((d : Int) / 2 ^ (i % 8)) 1 = (b : Int) := by
    have := i64_and1 (d / 2 ^ (i % 8)) (by omega)
    rw [hbit] at this
    simpa using this
  have E1 := Lib.hid e1
  clear e1 hbit
  go_enter Try.func55, Try.ntmps55
  go_wp2_with fail
  go_ret
  exact ⟨by rw [E1.out]; rfl, rfl⟩

theorem N8wlen_mul (M N : Nat) : N8.wlen (M * N) ≤ N8.wlen M + N8.wlen N := by
  refine N8.wlen_le ?_
  rw [N8.pw_add]
  exact Nat.mul_lt_mul'' (N8.lt_pw_wlen M) (N8.lt_pw_wlen N)

set_option maxHeartbeats 2000000 in
theorem rmul_any (A B : Option Addr) (n c m d M N : Nat) (w : World) (hM : IsNat w A n M) (hN : IsNat w B m N) (hn : n ≤ 200) (hm : m ≤ 200) :
    Calls Try.prog 26 #[.slice A n c, .slice B m d] w (WordPost (M * N) w) := by
  have hl1 := N8wlen_le hM
  have hl2 := N8wlen_le hN
  go_enter Try.func26, Try.ntmps26
  go_wp2_with fail
  refine (digits_any A n c M _ hM (by omega)).mono ?_
  rintro e w1 ⟨A1, c1, rfl, hD1, hc1, hc2, hb1⟩
  have hN1 := hN.below hb1
  go_wp2_with fail
  refine (digits_any B m d N _ hN1 (by omega)).mono ?_
  rintro e w2 ⟨A2, c2, rfl, hD2, hd1, hd2, hb2⟩
  have hD1' := hD1.below hb2
  have hB2 := below_step hb1 hb2
  have hMw := N8.lt_pw_wlen M
  have hNw := N8.lt_pw_wlen N
  have hMN := N8wlen_mul M N
  generalize N8.wlen M = x at *
  generalize N8.wlen N = y at *
  have hmk := make_ints (x + y) (by omega) ((x : Int) + (y : Int)) (by omega) (by omega)
  go_wp2_with fail
  clear hmk
  have hfA : 0 < x → ∀ b o, A1 = some ⟨b, o, none⟩ → b ≠ w2.heap.size := fun h => digs_far hD1' h (Nat.le_refl _)
  have hfB : 0 < y → ∀ b o, A2 = some ⟨b, o, none⟩ → b ≠ w2.heap.size := fun h => digs_far hD2 h (Nat.le_refl _)
  have hDA := hD1'.alloc (.cells (madeCells #[.int .i64 0] (x + y)) 3)
  have hDB := hD2.alloc (.cells (madeCells #[.int .i64 0] (x + y)) 3)
  have hrow := RowI.made w2 (x + y)
  have hbw : Below w.heap.size w (w2.alloc (.cells (madeCells #[.int .i64 0] (x + y)) 3)) := hB2.alloc hB2.size _
  have hgB := hB2.size
  generalize w2.alloc (.cells (madeCells #[.int .i64 0] (x + y)) 3) = w3 at *
  generalize w2.heap.size = g at *
  have HB := Lib.hid hbw
  have HMN := Lib.hid hMN
  clear hbw hM hN hN1 hD1 hD1' hD2 hb1 hb2 hB2 hMN
  go_loopw [8] (fun i wr => ∃ (k : Nat) (F : Nat → Nat), i = .int .i64 k ∧ k ≤ x ∧ RowI wr g (x + y) F ∧ Only g w3 wr ∧ Hid (N8.ofDigs F (x + y) = (M % N8.pw k) * N) ∧ Hid (∀ t, F t ≤ 65025 * (1000 * k))) (fun i _ => x - (intOf i).toNat)
  case atStart => exact ⟨0, _, rfl, Nat.zero_le _, hrow, Only.refl _ _, show _ = _ by rw [N8.ofDigs_zero, N8.mod_pw_zero, Nat.zero_mul], fun _ => Nat.zero_le _⟩
  case round =>
    obtain ⟨k, F, rfl, hk, hrk, hok, HF, HB1⟩ := hrel
    by_cases hlt : k < x
    · obtain ⟨wo, rfl⟩ : ∃ wo : World, wo = wr := ⟨_, rfl⟩
      go_wp2_with fail
      go_loopw [9] (fun j wi => ∃ (l : Nat) (G : Nat → Nat), j = .int .i64 l ∧ l ≤ y ∧ RowI wi g (x + y) G ∧ Only g w3 wi ∧ Hid (N8.ofDigs G (x + y) = (M % N8.pw k) * N + N8.dig M k * (N % N8.pw l) * N8.pw k) ∧ Hid (∀ t, G t ≤ 65025 * (1000 * k + l))) (fun j _ => y - (intOf j).toNat)
      case atStart => exact ⟨0, F, rfl, Nat.zero_le _, hrk, hok, show _ = _ by rw [N8.mod_pw_zero, Nat.mul_zero, Nat.zero_mul, Nat.add_zero]; exact HF.out, HB1.out⟩
      case round =>
        clear hrk hok HF HB1
        obtain ⟨l, G, rfl, hl, hrl, hol, HG, HB2⟩ := hrel
        by_cases hlt2 : l < y
        · have hMk := hol.digs hDA (hfA (by omega))
          have hNk := hol.digs hDB (hfB (by omega))
          obtain ⟨b, o, rfl, hcM⟩ := hMk.2 (by omega)
          obtain ⟨b', o', rfl, hcN⟩ := hNk.2 (by omega)
          have h1 := hcM k hlt
          have h2 := hcN l hlt2
          have hdM := N8.dig_lt M k
          have hdN := N8.dig_lt N l
          have s1 := hrl.cell (i := k + l) (by omega)
          have s2 := hrl.frozen (k + l)
          have hu := HB2.out (k + l)
          have hupd := N8.ofDigs_upd G (k + l) (N8.dig M k * N8.dig N l) (x + y) (by omega)
          rw [HG.out, N8.mulT_step] at hupd
          have hb' : ∀ t, (if t = k + l then G (k + l) + N8.dig M k * N8.dig N l else G t) ≤ 65025 * (1000 * k + (l + 1)) := fun t => by
            have hp : N8.dig M k * N8.dig N l ≤ 255 * 255 := Nat.mul_le_mul (by omega) (by omega)
            have := HB2.out t
            split <;> omega
          have HU := Lib.hid hupd
          have HB3 := Lib.hid hb'
          have hp : N8.dig M k * N8.dig N l ≤ 255 * 255 := Nat.mul_le_mul (by omega) (by omega)
          have e0 : ((N8.dig M k : Int)) * (N8.dig N l : Int) = ((N8.dig M k * N8.dig N l : Nat) : Int) := by simp
          clear hcM hcN hupd hb' hMk hNk HG HB2
          generalize N8.dig M k * N8.dig N l = p at *
          generalize hGu : G (k + l) = u at *
          have HGU := Lib.hid hGu
          clear hGu
          have e1 : (u : Int) + (p : Int) = ((u + p : Nat) : Int) := by simp
          generalize u + p = s at *
          go_wp2_with fail
          go_region
          all_goals go_wp2_with fail
          go_roundw
          case rel => exact ⟨l + 1, _, by go_num, by omega, hrl.set_ (k + l) s, (hol.set_ _ _).drew, HU.out, HB3.out⟩
          case measure => simp [intOf] <;> omega
        · have hl' : l = y := by omega
          subst hl'
          have hup := HG.out
          rw [N8.mulT_done hNw] at hup
          have HU := Lib.hid hup
          clear hup
          go_wp2_with fail
          go_roundw
          case rel => exact ⟨k + 1, G, by go_num, by omega, hrl, hol, HU.out, fun t => by have := HB2.out t; omega⟩
          case measure => simp [intOf] <;> omega
    · have hk' : k = x := by omega
      subst hk'
      have hT := HF.out
      rw [N8.mod_pw_of_lt hMw] at hT
      have HC := Lib.hid (carried_any (some ⟨g, 0, none⟩) (k + y) (k + y) F wr hrk.isL (by omega) (fun j _ => by have := HB1.out j; omega) (M * N) hT.symm)
      have hBr := hok.below HB.out hgB
      have HWA := fun A c (w : World) (h : IsD w A (N8.wlen (M * N)) (M * N)) (hc : N8.wlen (M * N) ≤ c) (hm : c ≤ 9223372036854775807) => words_any A _ c (M * N) w h hc hm (by have := HMN.out; omega)
      have HWB := Lib.hid HWA
      clear HWA hT
      go_wp2_with fail
      refine (HC.out).mono ?_
      rintro e w5 ⟨A5, c5, rfl, hD5, h51, h52, hb5⟩
      go_wp2_with fail
      refine (HWB.out A5 c5 _ hD5 h51 h52).mono ?_
      rintro e w6 ⟨A6, c6, rfl, hR, hf1, hf2, hb6⟩
      go_wp2_with fail
      go_ret
      exact ⟨A6, c6, rfl, hR, hf1, hf2, below_step (below_step hBr hb5) hb6⟩
end Go.Proofs.Ytegbhenchmfngaa
