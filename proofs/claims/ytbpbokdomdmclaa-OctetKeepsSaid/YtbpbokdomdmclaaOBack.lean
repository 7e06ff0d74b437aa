/- OctetBack: what was put is read as it was, whatever stands behind. -/
import Derived.Test.YtbpbokdomdmclaaOOne
namespace Go.Proofs.Ytbpbokdomdmclaa
open Go.RowKit

theorem rowA_flat : ∀ (l acc : List Node3) (r : List Nat), (∀ x ∈ l, NodeOk x) → rowA l.length acc (lebs (flatT l) ++ r, 0) = (acc ++ l, (r, 0))
  | [], acc, r, _ => by simp [rowA, flatT, lebs]
  | x :: l, acc, r, h => by
    obtain ⟨p, q, u⟩ := x
    have hx := h (p, q, u) List.mem_cons_self
    obtain ⟨⟨a1, a2⟩, ⟨b1, b2⟩, c1, c2⟩ := hx
    simp only at a1 a2 b1 b2 c1 c2
    obtain ⟨a, rfl⟩ : ∃ a : Nat, p = a := ⟨p.toNat, by omega⟩
    obtain ⟨b, rfl⟩ : ∃ a : Nat, q = a := ⟨q.toNat, by omega⟩
    obtain ⟨c, rfl⟩ : ∃ a : Nat, u = a := ⟨u.toNat, by omega⟩
    have ef : flatT (((a : Int), (b : Int), (c : Int)) :: l) = [(a : Int), (b : Int), (c : Int)] ++ flatT l := by unfold flatT; rw [List.flatMap_cons]
    have el : lebs [(a : Int), (b : Int), (c : Int)] = leb a ++ (leb b ++ leb c) := by simp [lebs]
    have e0 : lebs (flatT (((a : Int), (b : Int), (c : Int)) :: l)) ++ r = leb a ++ (leb b ++ (leb c ++ (lebs (flatT l) ++ r))) := by
      rw [ef, lebs_append, el]
      simp only [List.append_assoc]
    rw [e0, List.length_cons, rowA, nodeS_eq (numS_leb (by omega) _) (numS_leb (by omega) _) (numS_leb (by omega) _), if_neg (by simp)]
    simp only
    rw [rowA_flat l _ r (fun y hy => h y (List.mem_cons_of_mem _ hy))]
    simp
theorem rowS_lebT {t : List Node3} (r : List Nat) (h : ∀ x ∈ t, NodeOk x) (hl : t.length ≤ 4096) : rowS (lebT t ++ r, 0) = (t, (r, 0)) := by
  have e : numS 4096 (lebT t ++ r, 0) = (t.length, (lebs (flatT t) ++ r, 0)) := by
    unfold lebT
    rw [List.append_assoc]
    exact numS_leb (by omega) _
  unfold rowS
  rw [e]
  simp only
  rw [rowA_flat t [] r h, List.nil_append]
theorem sameRow_n (A B : Option Addr) (n m c d : Nat) (l r : List Node3) (w : World) (hn : l.length = n) (hm : r.length = m) (hA : Holds w A (nodesV l)) (hB : Holds w B (nodesV r)) (hl : n ≤ 1000000000) (v : Bool) (hv : v = decide (l = r)) :
    Calls Try.prog 21 #[.slice A n c, .slice B m d] w fun e w' => e = .returned (.bool v) ∧ Below w.heap.size w w' := by
  subst hn hm
  exact (rsameRow_any A B c d l r w hA hB hl v hv).mono fun e w' h => ⟨h.1, by obtain ⟨q, hq⟩ := h.2; rw [hq]; exact below_drewN (Below.refl _ _) q⟩
theorem lebs_drop {l : List Int} {k : Nat} (h : k < l.length) : lebs (l.drop k) = leb (l[k]).toNat ++ lebs (l.drop (k + 1)) := by
  rw [List.drop_eq_getElem_cons h, lebs_cons]

theorem back_long (A B C : Option Addr) (n m k c d f : Nat) (z : Int) (w : World) (h : 300 < n ∨ 1000 < m ∨ 1000 < k) :
    Calls Try.prog 5 #[.slice A n c, .int .i64 z, .slice B m d, .slice C k f] w fun e w' => e = .returned (.bool true) ∧ Below w.heap.size w w' := by
  by_cases h1 : 300 < n
  · have t1 : (300 : Int) < (n : Int) := by omega
    clear h
    go_enter Try.func5, Try.ntmps5
    go_wp2_with (refine (awake_any _).mono ?_; rintro e w0 ⟨rfl, hb0⟩)
    go_ret
    exact ⟨rfl, hb0⟩
  · have t1 : ¬ (300 : Int) < (n : Int) := by omega
    by_cases h2 : 1000 < m
    · have t2 : (1000 : Int) < (m : Int) := by omega
      clear h
      go_enter Try.func5, Try.ntmps5
      go_wp2_with (refine (awake_any _).mono ?_; rintro e w0 ⟨rfl, hb0⟩)
      go_ret
      exact ⟨rfl, hb0⟩
    · have t2 : ¬ (1000 : Int) < (m : Int) := by omega
      have t3 : (1000 : Int) < (k : Int) := by omega
      clear h
      go_enter Try.func5, Try.ntmps5
      go_wp2_with (refine (awake_any _).mono ?_; rintro e w0 ⟨rfl, hb0⟩)
      go_ret
      exact ⟨rfl, hb0⟩

set_option maxHeartbeats 4000000 in
theorem back_some (A B C : Option Addr) (n m k3 c d f : Nat) (l : List Int) (z : Int) (t : List Node3) (b : List Nat) (w : World) (hn : l.length = n) (hm : t.length = m) (hk : b.length = k3)
    (hA : Holds w A (intsV l)) (hl : Wide l) (z1 : -9223372036854775808 ≤ z) (z2 : z ≤ 9223372036854775807) (hB : Holds w B (nodesV t)) (ht : WideT t)
    (hs : Slice C k3 f) (hC : Holds w C (bytesV b)) (hb : Bytes b) (h1 : n ≤ 300) (h2 : m ≤ 1000) (h3 : k3 ≤ 1000) :
    Calls Try.prog 5 #[.slice A n c, .int .i64 z, .slice B m d, .slice C k3 f] w fun e w' => e = .returned (.bool true) ∧ Below w.heap.size w w' := by
  have t1 : ¬ (300 : Int) < (n : Int) := by omega
  have t2 : ¬ (1000 : Int) < (m : Int) := by omega
  have t3 : ¬ (1000 : Int) < (k3 : Int) := by omega
  have HWL := Lib.hid hl
  by_cases h0 : ∀ x ∈ l, 0 ≤ x
  · have hp : putF [] l = (lebs l, 0) := by unfold putF; rw [if_pos h0, List.nil_append]
    obtain ⟨p1, hp1⟩ : ∃ p, (lebs l).length = p := ⟨_, rfl⟩
    have hp1' : p1 ≤ 3000 := by have := lebs_len hl; omega
    obtain ⟨p2, hp2⟩ : ∃ p, (lebs l ++ leb (fold z)).length = p := ⟨_, rfl⟩
    have hp2' : p2 ≤ 3010 := by have := leb_ten (fold_bound z1 z2); rw [List.length_append] at hp2; omega
    have HP := Lib.hid fun w hA => oput_f none A 0 n 0 c [] w rfl slice_nil (Holds.nil _ _) (by omega) l hn hA hl (by omega) (lebs l) 0 p1 hp hp1
    have HS := Lib.hid fun w A1 c1 hs1 hA1 => osigned_f A1 p1 c1 (lebs l) w hp1 hs1 hA1 (by omega) z z1 z2 _ p2 rfl hp2
    by_cases h4 : ∀ x ∈ t, NodeOk x
    · have hr := rowF_ok h4 (by omega) (lebs l ++ leb (fold z))
      obtain ⟨p3, hp3⟩ : ∃ p, (lebs l ++ leb (fold z) ++ lebT t).length = p := ⟨_, rfl⟩
      have hp3' : p3 ≤ 44000 := by
        have := rowF_len (b := lebs l ++ leb (fold z)) ht
        rw [hr] at this
        simp only at this
        omega
      have HR := Lib.hid fun w A2 c2 hs2 hA2 hB => orow_f A2 B p2 m c2 d (lebs l ++ leb (fold z)) w hp2 hs2 hA2 (by omega) t hm hB ht _ 0 p3 hr hp3
      have hby : Bytes (lebs l ++ leb (fold z) ++ lebT t ++ b) := by
        intro x hx
        have hlb : ∀ (l : List Int), ∀ x ∈ lebs l, x < 256 := fun l x hx => by
          obtain ⟨y, _, hy⟩ := List.mem_flatMap.1 hx
          exact leb_byte _ x hy
        rcases List.mem_append.1 hx with hx | hx
        · rcases List.mem_append.1 hx with hx | hx
          · rcases List.mem_append.1 hx with hx | hx
            · exact hlb l x hx
            · exact leb_byte _ x hx
          · rcases List.mem_append.1 hx with hx | hx
            · exact leb_byte _ x hx
            · exact hlb _ x hx
        · exact hb x hx
      have HBY := Lib.hid hby
      have H0 := Lib.hid h0
      have HN := Lib.hid hn
      have HM := Lib.hid hm
      have HK := Lib.hid hk
      have HP3 := Lib.hid hp3
      have HOK := Lib.hid h4
      clear hp hp1 hp2 hp3 hr hn hm hk h0 h4 hby hb hl
      go_enter Try.func5, Try.ntmps5
      go_wp2_with fail
      refine (awake_any _).mono ?_
      rintro e w0 ⟨rfl, hb0⟩
      go_wp2_with fail
      refine (HP.out _ (hA.below hb0)).mono ?_
      rintro e w1 ⟨A1, c1, rfl, ho1, hs1, gb⟩
      have hb1 := below_step hb0 gb
      have x1 := own_holds ho1
      clear hb0 gb ho1
      go_wp2_with fail
      refine (HS.out _ A1 c1 hs1 x1).mono ?_
      rintro e w2 ⟨A2, c2, rfl, ho2, hs2, gb⟩
      have hb2 := below_step hb1 gb
      have x2 := own_holds ho2
      clear hb1 gb ho2 x1 hs1
      go_wp2_with fail
      refine (HR.out _ A2 c2 hs2 x2 (hB.below hb2)).mono ?_
      rintro e w3 ⟨A3, c3, rfl, ho3, hs3, gb⟩
      have hb3 := below_step hb2 gb
      have x3 := own_holds ho3
      clear hb2 gb ho3 x2 hs2
      generalize hdd : lebs l ++ leb (fold z) ++ lebT t = dd at *
      have HDD := Lib.hid hdd
      clear hdd
      have hlit := World.ownsRow_lit (base := w3.heap.size) (e := 5) (size := 1) w3 #[] 0 (Nat.le_refl _) (by unfold maxLen; omega) rfl
      have hb4 := below_alloc hb3 (.cells #[] 5)
      have hbw := (Below.refl w3.heap.size w3).alloc (Nat.le_refl _) (.cells #[] 5)
      have x4 := x3.alloc (.cells #[] 5)
      have y4 := (hC.below hb3).alloc (.cells #[] 5)
      have y3 := hC.below hb3
      go_wp2_with (first
        | (at_builtin; refine wpList_append_cells rfl (.tmp 61) (.tmp 62) _ rfl 5 (.int .u8 0) 1 1 info8 rfl (by decide) Try.underlying22 w3.heap.size _ 0 p3 _ (bytesV dd) rfl hlit A3 c3 rfl hs3 x4 (by rw [bytesV_len, HP3.out]; omega) bytesV_one (by omega) (by omega) w3 hbw hbw.size ?_; intro A4 c4 w4 ho4 hs4 hb4' hz4 _; simp only [Nat.zero_add, List.nil_append] at ho4 hs4)
        | (at_builtin; go_must (refine wpList_append_cells rfl (.tmp 63) (.tmp 64) _ rfl 5 (.int .u8 0) 1 1 info8 rfl (by decide) Try.underlying22 w3.heap.size _ p3 k3 _ (bytesV b) rfl ho4 C f rfl hs (y3.below hb4') (by rw [bytesV_len, HK.out]; omega) bytesV_one (by omega) (by omega) w3 hb4' hz4 ?_); intro A5 c5 w5 ho5 hs5 hb5' hz5 _))
      have hb6 := below_step hb3 hb5'
      have x6 := own_holds ho5
      have e6 : bytesV dd ++ bytesV b = bytesV (dd ++ b) := (bytesV_append dd b).symm
      rw [e6] at x6
      clear ho4 hs4 hb4' hz4 ho5 hb5' hz5 hlit hb4 hbw x4 y4 y3 x3 hs3 e6 hb3
      refine (new_n A5 (p3 + k3) c5 (dd ++ b) _ (by rw [List.length_append, HP3.out, HK.out]) hs5 x6 (by omega) HBY.out).mono ?_
      rintro e w7 ⟨g, rfl, hg, hR, gb⟩
      have hb7 := below_step hb6 gb
      have hgw : w.heap.size ≤ g := by have := hb6.size; omega
      clear hb6 gb x6 hs5
      go_wp2_with fail
      have hR' : Rd (47, w5.heap.size) w7 g (lebs (l.drop 0) ++ (leb (fold z) ++ (lebT t ++ b)), 0) := by
        rw [List.drop_zero]
        have e : lebs l ++ (leb (fold z) ++ (lebT t ++ b)) = dd ++ b := by rw [← HDD.out]; simp only [List.append_assoc]
        rw [e]
        exact hR
      have HG := Lib.hid hgw
      clear hR
      go_loopw [13] (fun i wr => ∃ k : Nat, i = .int .i64 k ∧ k ≤ n ∧ Rd (47, w5.heap.size) wr g (lebs (l.drop k) ++ (leb (fold z) ++ (lebT t ++ b)), 0) ∧ Below w.heap.size w wr) (fun i _ => n - (intOf i).toNat)
      case atStart => exact ⟨0, rfl, Nat.zero_le _, hR', hb7⟩
      case round =>
        clear hR' hb7
        obtain ⟨k, rfl, hk, hRd, hb⟩ := hrel
        by_cases hlt : k < n
        · have hkl : k < l.length := by have := HN.out; omega
          obtain ⟨bb, o, rfl, hc⟩ := hA (by rw [intsV_len]; omega)
          have hcw := (hb.cell (p := ⟨bb, o + k, none⟩) (World.block_lt_of_cell? _ _ (hc k _ (intsV_get hkl)))).trans (hc k _ (intsV_get hkl))
          have KS : ∀ w', Below w.heap.size w w' → w'.cell? ⟨bb, o + k, none⟩ = some (.int .i64 l[k]) ∧ Below w.heap.size w w' := fun w' hb => ⟨(hb.cell (p := ⟨bb, o + k, none⟩) (World.block_lt_of_cell? _ _ (hc k _ (intsV_get hkl)))).trans (hc k _ (intsV_get hkl)), hb⟩
          have hx0 := H0.out _ (List.getElem_mem hkl)
          have hxw := HWL.out _ (List.getElem_mem hkl)
          have hdr := lebs_drop hkl
          generalize l[k] = y at *
          obtain ⟨x, rfl⟩ : ∃ x : Nat, y = x := ⟨y.toNat, by omega⟩
          rw [Int.toNat_natCast] at hdr
          rw [hdr, List.append_assoc] at hRd
          have HA := Lib.hid fun w h => onum_known (47, w5.heap.size) g (x : Int) _ x _ (numS_leb (n := x) (by omega) (lebs (l.drop (k + 1)) ++ (leb (fold z) ++ (lebT t ++ b)))) w h (by omega) (by omega)
          have HKS := Lib.hid KS
          have hgw := HG.out
          have hki : (k : Int) < (n : Int) := by omega
          have hk0 : (0 : Int) ≤ (k : Int) := by omega
          clear KS hc hdr
          go_wp2_with fail
          refine region_begin (S := fun w' => w'.cell? ⟨bb, o + k, none⟩ = some (.int .i64 (x : Int)) ∧ Below w.heap.size w w') (by kernel_rfl) (HKS.out _ (below_drewN hb 1)) (fun hHeld => ?_)
          refine region_take 0 ?_ rfl (by kernel_rfl) (by rfl) hHeld ?_ ?_
          rotate_left
          · intro w hSw
            (try dsimp only at hSw)
            go_simp
            try with_reducible rfl
          try simp only [Act.put, List.setIfInBounds_toArray, List.set_cons_zero, List.set_cons_succ]
          refine region_take 1 ?_ rfl (by kernel_rfl) (by rfl) hHeld ?_ ?_
          rotate_left
          · intro w hSw
            (try dsimp only at hSw)
            go_simp
            try with_reducible rfl
          try simp only [Act.put, List.setIfInBounds_toArray, List.set_cons_zero, List.set_cons_succ]
          refine region_take 2 ?_ rfl (by kernel_rfl) (by rfl) hHeld ?_ ?_
          rotate_left
          · intro w hSw
            (try dsimp only at hSw)
            go_simp
            try with_reducible rfl
          try simp only [Act.put, List.setIfInBounds_toArray, List.set_cons_zero, List.set_cons_succ]
          refine region_take 3 ?_ rfl (by kernel_rfl) (by rfl) hHeld ?_ ?_
          rotate_left
          · intro w hSw
            (try dsimp only at hSw)
            go_simp
            try with_reducible rfl
          try simp only [Act.put, List.setIfInBounds_toArray, List.set_cons_zero, List.set_cons_succ]
          refine region_take 4 ?_ rfl (by kernel_rfl) (by rfl) hHeld ?_ ?_
          rotate_left
          · intro w hSw
            (try dsimp only at hSw)
            go_simp
            try with_reducible rfl
          try simp only [Act.put, List.setIfInBounds_toArray, List.set_cons_zero, List.set_cons_succ]
          refine region_take 5 ?_ rfl (by kernel_rfl) (by rfl) hHeld ?_ ?_
          rotate_left
          · intro w hSw
            (try dsimp only at hSw)
            go_simp
            try with_reducible rfl
          try simp only [Act.put, List.setIfInBounds_toArray, List.set_cons_zero, List.set_cons_succ]
          refine region_take 6 ?_ rfl (by kernel_rfl) (by rfl) hHeld ?_ ?_
          rotate_left
          · intro w hSw
            (try dsimp only at hSw)
            go_simp
            try with_reducible rfl
          try simp only [Act.put, List.setIfInBounds_toArray, List.set_cons_zero, List.set_cons_succ]
          refine region_take 8 ?_ rfl (by kernel_rfl) (by rfl) hHeld ?_ ?_
          rotate_left
          · intro w hSw
            (try dsimp only at hSw)
            go_simp
            try with_reducible rfl
          try simp only [Act.put, List.setIfInBounds_toArray, List.set_cons_zero, List.set_cons_succ]
          refine region_take 9 ?_ rfl (by kernel_rfl) (by rfl) hHeld ?_ ?_
          rotate_left
          · intro w hSw
            (try dsimp only at hSw)
            go_simp
            try with_reducible rfl
          try simp only [Act.put, List.setIfInBounds_toArray, List.set_cons_zero, List.set_cons_succ]
          refine region_take 10 ?_ rfl (by kernel_rfl) (by rfl) hHeld ?_ ?_
          rotate_left
          · intro w hSw
            (try dsimp only at hSw)
            go_simp
            try with_reducible rfl
          try simp only [Act.put, List.setIfInBounds_toArray, List.set_cons_zero, List.set_cons_succ]
          refine region_take 11 ?_ rfl (by kernel_rfl) (by rfl) hHeld ?_ ?_
          rotate_left
          · intro w hSw
            (try dsimp only at hSw)
            go_simp
            try with_reducible rfl
          try simp only [Act.put, List.setIfInBounds_toArray, List.set_cons_zero, List.set_cons_succ]
          refine region_call 7 rfl (by kernel_rfl) (by rfl) (fun K hK => ?_)
          go_simp
          go_at_call 24
          ((with_reducible refine (HA.out _ hRd.drew).mono ?_); rintro e w2 ⟨rfl, hR2, hT2⟩)
          have hb2 := (Touch.of_drew hT2).below hb hb.size hgw
          refine hK.out _ _ (HKS.out _ hb2) (fun hHeld => ?_)
          clear hK K
          try simp only [Act.put, List.setIfInBounds_toArray, List.set_cons_zero, List.set_cons_succ]
          refine region_take 12 ?_ rfl (by kernel_rfl) (by rfl) hHeld ?_ ?_
          rotate_left
          · intro w hSw
            (try dsimp only at hSw)
            go_simp
            try with_reducible rfl
          try simp only [Act.put, List.setIfInBounds_toArray, List.set_cons_zero, List.set_cons_succ]
          refine region_done (by kernel_rfl) ?_
          clear hHeld
          go_wp2_with fail
          go_roundw
          case rel => exact ⟨k + 1, by go_num, by omega, hR2, hb2⟩
          case measure => simp [intOf] <;> omega
        · obtain rfl : k = n := by omega
          rw [show l.drop k = [] by rw [← HN.out]; exact List.drop_length, show lebs [] = [] from rfl, List.nil_append] at hRd
          have hgw := HG.out
          go_wp2_with fail
          have HSG := Lib.hid (osignedR_any _ g _ _ hRd)
          rw [signedS_leb z1 z2] at HSG
          clear hRd
          refine (HSG.out).mono ?_
          rintro e w8 ⟨rfl, hR8, hT8⟩
          have hb8 := hT8.below hb hb.size hgw
          have HRW := Lib.hid (orowR_any _ g _ _ hR8)
          rw [rowS_lebT b HOK.out (by have := HM.out; omega)] at HRW
          clear hb hT8 hR8 HSG
          go_wp2_with fail
          refine (HRW.out).mono ?_
          rintro e w9 ⟨A9, c9, rfl, ho9, hR9, hT9⟩
          have hb9 := hT9.below hb8 hb8.size hgw
          have x9 := own_holds ho9
          clear hb8 hT9 ho9 HRW
          go_wp2_with fail
          refine (sameRow_n A9 B t.length m c9 d t t _ rfl HM.out x9 (hB.below hb9) (by have := HM.out; omega) true (by simp)).mono ?_
          rintro e w10 ⟨rfl, gb⟩
          have hb10 := below_step hb9 gb
          have hR10 := hR9.below gb
          clear hb9 gb hR9 x9
          go_wp2_with fail
          refine (oerr_any _ g _ _ hR10).mono ?_
          rintro e w' ⟨rfl, rfl⟩
          have HLF := Lib.hid (oleft_any _ g _ _ hR10)
          simp only at HLF
          rw [HK.out] at HLF
          go_wp2_with fail
          refine (HLF.out).mono ?_
          rintro e w' ⟨rfl, rfl⟩
          go_wp2_with fail
          go_ret
          exact ⟨rfl, hb10⟩
    · have hr : rowF (lebs l ++ leb (fold z)) t = ([], 1) := by unfold rowF; rw [if_neg (by omega), if_neg h4]
      have HR := Lib.hid fun w A2 c2 hs2 hA2 hB => orow_f A2 B p2 m c2 d (lebs l ++ leb (fold z)) w hp2 hs2 hA2 (by omega) t hm hB ht _ 1 0 hr rfl
      clear hp hp1 hp2 hr hn hm hk h0 h4 hb hl
      go_enter Try.func5, Try.ntmps5
      go_wp2_with fail
      refine (awake_any _).mono ?_
      rintro e w0 ⟨rfl, hb0⟩
      go_wp2_with fail
      refine (HP.out _ (hA.below hb0)).mono ?_
      rintro e w1 ⟨A1, c1, rfl, ho1, hs1, gb⟩
      have hb1 := below_step hb0 gb
      have x1 := own_holds ho1
      clear hb0 gb ho1
      go_wp2_with fail
      refine (HS.out _ A1 c1 hs1 x1).mono ?_
      rintro e w2 ⟨A2, c2, rfl, ho2, hs2, gb⟩
      have hb2 := below_step hb1 gb
      have x2 := own_holds ho2
      clear hb1 gb ho2 x1 hs1
      go_wp2_with fail
      refine (HR.out _ A2 c2 hs2 x2 (hB.below hb2)).mono ?_
      rintro e w3 ⟨A3, c3, rfl, ho3, hs3, gb⟩
      have hb3 := below_step hb2 gb
      go_wp2_with fail
      go_ret
      exact ⟨rfl, hb3⟩
  · have hp : putF [] l = ([], 1) := by unfold putF; rw [if_neg h0]
    have HP := Lib.hid fun w hA => oput_f none A 0 n 0 c [] w rfl slice_nil (Holds.nil _ _) (by omega) l hn hA hl (by omega) [] 1 0 hp rfl
    clear hp hn hm hk h0 hb hl
    go_enter Try.func5, Try.ntmps5
    go_wp2_with fail
    refine (awake_any _).mono ?_
    rintro e w0 ⟨rfl, hb0⟩
    go_wp2_with fail
    refine (HP.out _ (hA.below hb0)).mono ?_
    rintro e w1 ⟨A1, c1, rfl, ho1, hs1, gb⟩
    have hb1 := below_step hb0 gb
    go_wp2_with fail
    go_ret
    exact ⟨rfl, hb1⟩
theorem back_any (A B C : Option Addr) (c d f : Nat) (l : List Int) (z : Int) (t : List Node3) (b : List Nat) (w : World) (_ : Slice A l.length c)
    (hA : Holds w A (intsV l)) (hl : Wide l) (z1 : -9223372036854775808 ≤ z) (z2 : z ≤ 9223372036854775807) (_ : Slice B t.length d) (hB : Holds w B (nodesV t)) (ht : WideT t)
    (hs : Slice C b.length f) (hC : Holds w C (bytesV b)) (hb : Bytes b) :
    Calls Try.prog 5 #[.slice A l.length c, .int .i64 z, .slice B t.length d, .slice C b.length f] w fun e w' => e = .returned (.bool true) ∧ Below w.heap.size w w' := by
  by_cases h : 300 < l.length ∨ 1000 < t.length ∨ 1000 < b.length
  · exact back_long A B C _ _ _ c d f z w h
  · exact back_some A B C _ _ _ c d f l z t b w rfl rfl rfl hA hl z1 z2 hB ht hs hC hb (by omega) (by omega) (by omega)
end Go.Proofs.Ytbpbokdomdmclaa
