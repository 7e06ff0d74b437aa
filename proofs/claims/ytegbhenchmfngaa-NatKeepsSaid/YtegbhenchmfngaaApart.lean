/- The document's Kept and Apart. -/
import Derived.Test.YtegbhenchmfngaaRoom
namespace Go.Proofs.Ytegbhenchmfngaa
open Go.RowKit

set_option maxHeartbeats 1000000 in
theorem kept_any (g c n d M : Nat) (A : Option Addr) (w : World) (hX : IsNat w (some ⟨g, 0, none⟩) n M) (hM : IsNat w A n M) (hc : n + 2 ≤ c) (_hcm : c ≤ 9223372036854775807) (hn : n ≤ 100000)
    (c1 : w.cell? ⟨g, n, none⟩ = some (.int .u32 2779096485)) (c2 : w.cell? ⟨g, n + 1, none⟩ = some (.int .u32 1515870810)) :
    Calls Try.prog 41 #[.slice (some ⟨g, 0, none⟩) n c, .slice A n d] w fun e w' => e = .returned (.bool true) ∧ Below w.heap.size w w' := by
  have hS := same_num (some ⟨g, 0, none⟩) A n c d M M w hX hM (by omega)
  rw [decide_eq_true (rfl : M = M)] at hS
  go_enter Try.func41, Try.ntmps41
  go_wp2_with fail
  refine hS.mono ?_
  rintro e w' ⟨rfl, q, rfl⟩
  go_wp2_with fail
  go_ret
  exact ⟨rfl, below_drewN (Below.refl _ _) q⟩

/-- Worlds that part in blocks of a set alone. -/
structure Among (S : Nat → Prop) (w w' : World) : Prop where
  os : w'.os = w.os
  tape : w'.tape = w.tape
  output : w'.output = w.output
  size : w'.heap.size = w.heap.size
  block : ∀ k, ¬ S k → w'.heap[k]? = w.heap[k]?
namespace Among
variable {S : Nat → Prop} {a b c w w' : World}
theorem refl (S : Nat → Prop) (w : World) : Among S w w := ⟨rfl, rfl, rfl, rfl, fun _ _ => rfl⟩
theorem only {g : Nat} (h : Among S a b) (k : Only g b c) (hg : S g) : Among S a c :=
  ⟨k.os.trans h.os, k.tape.trans h.tape, k.output.trans h.output, k.size.trans h.size, fun i hi => (k.block i (fun e => hi (e ▸ hg))).trans (h.block i hi)⟩
theorem drew (h : Among S a b) : Among S a b.drew := ⟨h.os, h.tape, h.output, h.size, h.block⟩
theorem nat (h : Among S w w') {A : Option Addr} {n N : Nat} (hA : IsNat w A n N) (hg : 0 < n → ∀ b o, A = some ⟨b, o, none⟩ → ¬ S b) : IsNat w' A n N :=
  ⟨hA.1, fun hn => by
    obtain ⟨b, o, e, hc⟩ := hA.2 hn
    exact ⟨b, o, e, fun j hj => (World.cell?_of_block (w := w) (a := ⟨b, o + j, none⟩) (h.block b (hg hn b o e))).trans (hc j hj)⟩⟩
theorem below {B : Nat} (h : Among S w w') (hS : ∀ k, S k → B ≤ k) : Below B w w' :=
  ⟨h.os, h.tape, h.output, by rw [h.size]; exact Nat.le_refl _, fun k hk => h.block k (fun hs => by have := hS k hs; omega)⟩
end Among

set_option maxHeartbeats 2000000 in
theorem apart_any (gl L : Nat) (A : Nat → Option Addr) (ns cs : Nat → Nat) (w : World) (hL : L ≤ 1000)
    (hlist : ∀ i, i < L → w.cell? ⟨gl, i, none⟩ = some (.slice (A i) (ns i) (cs i)))
    (hrow : ∀ i, i < L → ns i ≤ cs i ∧ cs i ≤ 1152921504606846976 ∧ ((A i = none ∧ cs i = 0) ∨ ∃ g F, A i = some ⟨g, 0, none⟩ ∧ g ≠ gl ∧ RowN w g (cs i) F))
    (hdis : ∀ i j g g', i < L → j < L → i ≠ j → A i = some ⟨g, 0, none⟩ → A j = some ⟨g', 0, none⟩ → g ≠ g') :
    Calls Try.prog 40 #[.slice (some ⟨gl, 0, none⟩) L L] w fun e w' => e = .returned (.bool true) ∧ Among (fun k => ∃ i, i < L ∧ A i = some ⟨k, 0, none⟩) w w' := by
  have HLI := Lib.hid hlist
  have HRW := Lib.hid hrow
  have HDI := Lib.hid hdis
  clear hlist hrow hdis
  go_enter Try.func40, Try.ntmps40
  go_wp2_with fail
  go_loopw [3] (fun i wr => ∃ k : Nat, i = .int .i64 k ∧ k ≤ L ∧ Hid (Among (fun k => ∃ i, i < L ∧ A i = some ⟨k, 0, none⟩) w wr) ∧ Hid (∀ i, i < L → wr.cell? ⟨gl, i, none⟩ = some (.slice (A i) (ns i) (cs i))) ∧
    Hid (∀ i, i < L → ∀ g, A i = some ⟨g, 0, none⟩ → ∃ F, RowN wr g (cs i) F ∧ (i < k → ∀ t, F t = 1000 + i))) (fun i _ => L - (intOf i).toNat)
  case atStart => exact ⟨0, rfl, Nat.zero_le _, Among.refl _ _, HLI.out, fun i hi g hg => by
    rcases (HRW.out i hi).2.2 with ⟨h, _⟩ | ⟨g', F, h, _, hr⟩
    · rw [h] at hg; cases hg
    · rw [h] at hg
      cases hg
      exact ⟨F, hr, fun h => absurd h (by omega)⟩⟩
  case round =>
    obtain ⟨k, rfl, hk, HAM, HL2, HR2⟩ := hrel
    by_cases hlt : k < L
    · obtain ⟨r1, r2, r3⟩ := HRW.out k hlt
      have s0 := HL2.out k hlt
      rcases r3 with ⟨hA, hc0⟩ | ⟨g, F0, hA, hgl, _⟩
      · have hn0 : ns k = 0 := by omega
        rw [hA, hc0, hn0] at s0
        have HNX : Hid (∀ i, i < L → ∀ g, A i = some ⟨g, 0, none⟩ → ∃ F, RowN wr g (cs i) F ∧ (i < k + 1 → ∀ t, F t = 1000 + i)) := fun i hi g hg => by
          obtain ⟨F, h1, h2⟩ := HR2.out i hi g hg
          refine ⟨F, h1, fun h => h2 ?_⟩
          rcases Nat.lt_or_ge i k with h3 | h3
          · exact h3
          · have : i = k := by omega
            subst this
            rw [hA] at hg; cases hg
        clear hA hc0 hn0 r1 r2
        go_wp2_with fail
        refine wp_loop_rounds 1 ?_
        rw [rounds_succ]
        go_wp2_with fail
        go_region
        go_wp2_with fail
        refine wp_loop_rounds 1 ?_
        rw [rounds_succ]
        go_wp2_with fail
        go_roundw
        case rel => exact ⟨k + 1, by go_num, by omega, HAM.out.drew, HL2.out, HNX.out⟩
        case measure => simp [intOf] <;> omega
      · obtain ⟨F, hrow, _⟩ := HR2.out k hlt g hA
        rw [hA] at s0
        have HA := Lib.hid hA
        obtain ⟨n, hn⟩ : ∃ n, n = ns k := ⟨_, rfl⟩
        obtain ⟨c, hc⟩ : ∃ c, c = cs k := ⟨_, rfl⟩
        rw [← hn, ← hc] at s0
        rw [← hn, ← hc] at r1
        rw [← hc] at r2 hrow
        obtain ⟨z, hz⟩ : ∃ z : Nat, z = 1000 + k := ⟨_, rfl⟩
        have e1 : (1000 : Int) + (k : Int) = (z : Int) := by omega
        have hzb : z ≤ 2000 := by omega
        have HZ := Lib.hid hz
        have HC := Lib.hid hc
        clear hA hn hc hz
        obtain ⟨wo, rfl⟩ : ∃ wo : World, wo = wr := ⟨_, rfl⟩
        go_wp2_with fail
        go_loopw [4] (fun kk wi => ∃ j : Nat, kk = .int .i64 j ∧ j ≤ n ∧ RowN wi g c (fun t => if t < j then z else F t) ∧ Only g wo wi) (fun kk _ => n - (intOf kk).toNat)
        case atStart => exact ⟨0, rfl, Nat.zero_le _, hrow.congr fun t _ => by rw [if_neg (by omega)], Only.refl _ _⟩
        case round =>
          clear hrow
          obtain ⟨j, rfl, hj, hrow, hok⟩ := hrel
          have s0' := (hok.cell (p := ⟨gl, k, none⟩) (fun h => hgl h.symm)).trans s0
          by_cases hlt2 : j < n
          · have s1 := hrow.cell (i := j) (by omega)
            have s2 := hrow.frozen j
            rw [if_neg (by omega)] at s1
            go_wp2_with fail
            go_roundw
            case rel => exact ⟨j + 1, by go_num, by omega, (hrow.set_ j z).congr fun t _ => by
              by_cases e : t = j
              · subst e; simp
              · simp only [if_neg e]
                by_cases h : t < j
                · rw [if_pos h, if_pos (by omega)]
                · rw [if_neg h, if_neg (by omega)], hok.set_ _ _⟩
            case measure => simp [intOf] <;> omega
          · have hj' : j = n := by omega
            subst hj'
            go_wp2_with fail
            go_region
            go_wp2_with fail
            go_loopw [6] (fun kk wi => ∃ t : Nat, kk = .int .i64 t ∧ j ≤ t ∧ t ≤ c ∧ RowN wi g c (fun u => if u < t then z else F u) ∧ Only g wo wi) (fun kk _ => c - (intOf kk).toNat)
            case atStart => exact ⟨j, rfl, Nat.le_refl _, r1, hrow.drew, hok.drew⟩
            case round =>
              clear hrow hok s0'
              obtain ⟨t, rfl, ht1, ht2, hrow, hok⟩ := hrel
              have s0' := (hok.cell (p := ⟨gl, k, none⟩) (fun h => hgl h.symm)).trans s0
              by_cases hlt3 : t < c
              · have s1 := hrow.cell (i := t) hlt3
                have s2 := hrow.frozen t
                rw [if_neg (by omega)] at s1
                go_wp2_with fail
                go_roundw
                case rel => exact ⟨t + 1, by go_num, by omega, by omega, (hrow.set_ t z).congr fun u _ => by
                  by_cases e : u = t
                  · subst e; simp
                  · simp only [if_neg e]
                    by_cases h : u < t
                    · rw [if_pos h, if_pos (by omega)]
                    · rw [if_neg h, if_neg (by omega)], hok.set_ _ _⟩
                case measure => simp [intOf] <;> omega
              · have ht' : t = c := by omega
                subst ht'
                have hfull := hrow.congr (G := fun _ => z) fun u hu => if_pos hu
                clear hrow
                go_wp2_with fail
                go_roundw
                case rel =>
                  refine ⟨k + 1, by go_num, by omega, HAM.out.only hok ⟨k, hlt, HA.out⟩, fun i hi => ?_, fun i hi g' hg' => ?_⟩
                  · exact (hok.cell (p := ⟨gl, i, none⟩) (fun h => hgl h.symm)).trans (HL2.out i hi)
                  · by_cases e : i = k
                    · subst e
                      rw [HA.out] at hg'
                      cases hg'
                      exact ⟨fun _ => z, by rw [← HC.out]; exact hfull, fun _ _ => HZ.out⟩
                    · obtain ⟨F', h1, h2⟩ := HR2.out i hi g' hg'
                      exact ⟨F', h1.only hok (HDI.out i k g' g hi hlt e hg' HA.out), fun h => h2 (by omega)⟩
                case measure => simp [intOf] <;> omega
    · have hk' : k = L := by omega
      subst hk'
      go_wp2_with fail
      go_loop [7] (fun i => ∃ t : Nat, i = .int .i64 t ∧ t ≤ k) (fun i => k - (intOf i).toNat)
      case atStart => exact ⟨0, rfl, Nat.zero_le _⟩
      case round =>
        obtain ⟨t, rfl, ht⟩ := hrel
        by_cases hlt2 : t < k
        · obtain ⟨r1, r2, r3⟩ := HRW.out t hlt2
          have s0 := HL2.out t hlt2
          rcases r3 with ⟨hA, hc0⟩ | ⟨g, F0, hA, hgl, _⟩
          · have hn0 : ns t = 0 := by omega
            rw [hA, hc0, hn0] at s0
            clear hA hc0 hn0 r1 r2
            go_wp2_with fail
            refine wp_loop_rounds 1 ?_
            rw [rounds_succ]
            go_wp2_with fail
            go_round
            case rel => exact ⟨t + 1, by go_num, by omega⟩
            case measure => simp [intOf] <;> omega
          · obtain ⟨F, hrow, hF⟩ := HR2.out t hlt2 g hA
            have hF := hF hlt2
            rw [hA] at s0
            clear hA
            generalize ns t = n at *
            generalize cs t = c at *
            obtain ⟨z, hz⟩ : ∃ z : Nat, z = 1000 + t := ⟨_, rfl⟩
            have e1 : (1000 : Int) + (t : Int) = (z : Int) := by omega
            have hzb : z ≤ 2000 := by omega
            rw [← hz] at hF
            have HF := Lib.hid hF
            clear hz hF
            go_wp2_with fail
            go_loop [8] (fun kk => ∃ j : Nat, kk = .int .i64 j ∧ j ≤ n) (fun kk => n - (intOf kk).toNat)
            case atStart => exact ⟨0, rfl, Nat.zero_le _⟩
            case round =>
              obtain ⟨j, rfl, hj⟩ := hrel
              by_cases hlt3 : j < n
              · have s1 := hrow.cell (i := j) (by omega)
                rw [HF.out j] at s1
                go_wp2_with fail
                go_round
                case rel => exact ⟨j + 1, by go_num, by omega⟩
                case measure => simp [intOf] <;> omega
              · have hj' : j = n := by omega
                subst hj'
                go_wp2_with fail
                go_round
                case rel => exact ⟨t + 1, by go_num, by omega⟩
                case measure => simp [intOf] <;> omega
        · have ht' : t = k := by omega
          subst ht'
          go_wp2_with fail
          go_ret
          exact ⟨rfl, HAM.out⟩
end Go.Proofs.Ytegbhenchmfngaa
