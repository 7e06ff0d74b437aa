/- OctetOne: what is read, put anew, is just the bytes that were read. -/
import Derived.Test.YtbpbokdomdmclaaOCuts
namespace Go.Proofs.Ytbpbokdomdmclaa
open Go.RowKit

theorem rowA_ok : ∀ (n : Nat) (acc : List Node3) (s : St), s.2 = 0 → (rowA n acc s).2.2 = 0 → ∃ l, (rowA n acc s).1 = acc ++ l ∧ l.length = n ∧ lebs (flatT l) ++ (rowA n acc s).2.1 = s.1 ∧ ∀ x ∈ l, NodeOk x
  | 0, acc, s, _, _ => ⟨[], by rw [rowA, List.append_nil], rfl, rfl, fun x hx => by cases hx⟩
  | n + 1, acc, s, h0, h => by
    rw [rowA] at h ⊢
    by_cases h1 : (nodeS s).2.2 ≠ 0
    · rw [if_pos h1] at h
      exact absurd h h1
    · rw [if_neg h1] at h ⊢
      have h2 : (nodeS s).2.2 = 0 := by simpa using h1
      obtain ⟨a, sa, ea⟩ : ∃ a sa, numS 255 s = (a, sa) := ⟨_, _, rfl⟩
      obtain ⟨b, sb, eb⟩ : ∃ b sb, numS 1048576 sa = (b, sb) := ⟨_, _, rfl⟩
      obtain ⟨c, sc, ec⟩ : ∃ c sc, numS 1048576 sb = (c, sc) := ⟨_, _, rfl⟩
      rw [nodeS_eq ea eb ec] at h h2 ⊢
      have kc := numS_ok (most := 1048576) (s := sb) (by rw [ec]; exact h2)
      have kb := numS_ok (most := 1048576) (s := sa) (by rw [eb]; exact kc.2.1)
      have ka := numS_ok (most := 255) (s := s) (by rw [ea]; exact kb.2.1)
      rw [ec] at kc
      rw [eb] at kb
      rw [ea] at ka
      obtain ⟨l, e1, e2, e3, e4⟩ := rowA_ok n _ _ h2 h
      refine ⟨((a : Int), (b : Int), (c : Int)) :: l, by rw [e1]; simp, by rw [List.length_cons, e2], ?_, fun x hx => ?_⟩
      · have ef : flatT (((a : Int), (b : Int), (c : Int)) :: l) = [(a : Int), (b : Int), (c : Int)] ++ flatT l := by unfold flatT; rw [List.flatMap_cons]
        have el : lebs [(a : Int), (b : Int), (c : Int)] = leb a ++ (leb b ++ leb c) := by simp [lebs]
        simp only at ka kb kc e3
        rw [ef, lebs_append, el, ← ka.2.2.1, ← kb.2.2.1, ← kc.2.2.1, ← e3]
        simp only [List.append_assoc]
      · rcases List.mem_cons.1 hx with rfl | hx
        · have := ka.2.2.2
          have := kb.2.2.2
          have := kc.2.2.2
          simp only at *
          show (0 ≤ (a : Int) ∧ (a : Int) ≤ 255) ∧ (0 ≤ (b : Int) ∧ (b : Int) ≤ 1048576) ∧ 0 ≤ (c : Int) ∧ (c : Int) ≤ 1048576
          omega
        · exact e4 x hx
theorem rowS_ok {s : St} (h : (rowS s).2.2 = 0) : s.2 = 0 ∧ lebT (rowS s).1 ++ (rowS s).2.1 = s.1 ∧ (rowS s).1.length ≤ 4096 ∧ ∀ x ∈ (rowS s).1, NodeOk x := by
  unfold rowS at h ⊢
  by_cases h1 : (numS 4096 s).2.2 = 0
  · have h2 := numS_ok h1
    obtain ⟨l, e1, e2, e3, e4⟩ := rowA_ok _ _ _ h1 h
    rw [List.nil_append] at e1
    rw [e1]
    refine ⟨h2.2.1, ?_, by have := h2.2.2.2; omega, e4⟩
    unfold lebT
    rw [e2, List.append_assoc, e3]
    exact h2.2.2.1
  · have h3 := (numS_bad (s := s) (most := 4096) h1).1
    rw [h3] at h
    exact absurd h h1
theorem rowS_bad {s : St} (h : (rowS s).2.2 ≠ 0) : (rowS s).1 = [] := by
  unfold rowS at h ⊢
  by_cases h1 : (numS 4096 s).2.2 = 0
  · exact rowA_fault _ _ _ h1 h
  · rw [(numS_bad (s := s) (most := 4096) h1).1]
    rfl
theorem take_of_append {l r b : List Nat} (h : l ++ r = b) : b.take (b.length - r.length) = l := by
  subst h
  rw [List.length_append, Nat.add_sub_cancel]
  exact List.take_left
theorem wide_of_ok {t : List Node3} (h : ∀ x ∈ t, NodeOk x) : WideT t := fun x hx => by
  have := h x hx
  unfold NodeOk at this
  omega
theorem rowF_ok {t : List Node3} (h : ∀ x ∈ t, NodeOk x) (hl : t.length ≤ 4096) (b : List Nat) : rowF b t = (b ++ lebT t, 0) := by
  unfold rowF
  rw [if_neg (by omega), if_pos h]

theorem one_long (A : Option Addr) (n c : Nat) (z : Int) (r : Bool) (w : World) (h : 4000 < n) :
    Calls Try.prog 6 #[.slice A n c, .int .i64 z, .bool r] w fun e w' => e = .returned (.bool true) ∧ Below w.heap.size w w' := by
  have t1 : (4000 : Int) < (n : Int) := by omega
  go_enter Try.func6, Try.ntmps6
  go_wp2_with (refine (awake_any _).mono ?_; rintro e w0 ⟨rfl, hb0⟩)
  go_ret
  exact ⟨rfl, hb0⟩

set_option maxHeartbeats 4000000 in
theorem one_row (A : Option Addr) (n c : Nat) (b : List Nat) (z : Int) (w : World) (hn : b.length = n) (hs : Slice A n c) (hA : Holds w A (bytesV b)) (hb : Bytes b) (h : n ≤ 4000) :
    Calls Try.prog 6 #[.slice A n c, .int .i64 z, .bool true] w fun e w' => e = .returned (.bool true) ∧ Below w.heap.size w w' := by
  have t1 : ¬ (4000 : Int) < (n : Int) := by omega
  have HN := Lib.hid fun w hA => new_n A n c b w hn hs hA (by omega) hb
  have ac1 : n ≤ c := hs.1
  have ac2 : c ≤ 9223372036854775807 := hs.2.1
  have HNL := Lib.hid hn
  clear hn hs hb
  go_enter Try.func6, Try.ntmps6
  go_wp2_with fail
  refine (awake_any _).mono ?_
  rintro e w0 ⟨rfl, hb0⟩
  go_wp2_with fail
  refine (HN.out _ (hA.below hb0)).mono ?_
  rintro e w1 ⟨g, rfl, hg, hR, gb⟩
  have hb1 := below_step hb0 gb
  have hgw : w.heap.size ≤ g := by have := hb0.size; omega
  clear hb0 gb
  go_wp2_with fail
  have HR := Lib.hid (orowR_any _ g _ _ hR)
  have HB := Lib.hid (rowS_bad (s := (b, 0)))
  have HO := Lib.hid (rowS_ok (s := (b, 0)))
  clear hR
  generalize rowS (b, 0) = res at *
  obtain ⟨t, s'⟩ := res
  simp only at HB HO HR
  refine (HR.out).mono ?_
  rintro e w2 ⟨A2, c2, rfl, ho2, hR2, hT2⟩
  have hb2 := hT2.below hb1 hb1.size hgw
  have hs2 : Slice A2 t.length c2 := by
    obtain ⟨A', c', e', h', _⟩ := own_slice ho2
    cases e'
    exact h'
  have x2 := own_holds ho2
  clear hb1 hT2 ho2
  go_wp2_with fail
  have HE := Lib.hid (oerr_any _ g _ _ hR2)
  by_cases h0 : s'.2 = 0
  · obtain ⟨_, k1, k2, k3⟩ := HO.out h0
    have hk : (lebT t).length ≤ n := by rw [← HNL.out, ← k1, List.length_append]; omega
    obtain ⟨q, hq⟩ : ∃ q, (lebT t).length = q := ⟨_, rfl⟩
    obtain ⟨left, hleft⟩ : ∃ left, left = s'.1.length := ⟨_, rfl⟩
    obtain ⟨tn, htn⟩ : ∃ tn, t.length = tn := ⟨_, rfl⟩
    have hsum : q + left = n := by rw [← hq, hleft, ← HNL.out, ← k1, List.length_append]
    have hqi : (n : Int) - (left : Int) = (q : Int) := by omega
    have htk : b.take q = lebT t := by rw [← hq, ← k1]; exact List.take_left
    have HQ := Lib.hid fun w hC => orow_f none A2 0 tn 0 c2 [] w rfl slice_nil (Holds.nil _ _) (by omega) t htn hC (wide_of_ok k3) (lebT t) 0 q (rowF_ok k3 k2 []) hq
    have HL := Lib.hid fun w h => oleft_any (47, w0.heap.size) g s' w h
    rw [← hleft] at HL
    rw [htn] at hs2 ⊢
    have HTK := Lib.hid htk
    have HQL := Lib.hid hq
    have hqn : q ≤ n := by omega
    rw [h0] at HE
    clear hq hleft htn k1 k2 k3 htk h0 hk
    refine (HE.out).mono ?_
    rintro e w' ⟨rfl, rfl⟩
    go_wp2_with fail
    refine (HQ.out _ x2).mono ?_
    rintro e w3 ⟨A3, c3, rfl, ho3, hs3, gb⟩
    have hb3 := below_step hb2 gb
    have x3 := own_holds ho3
    have hR3 := hR2.below gb
    clear hb2 ho3 gb x2 hs2 hR2 HE HR
    go_wp2_with fail
    refine (HL.out _ hR3).mono ?_
    rintro e w' ⟨rfl, rfl⟩
    go_wp2_with fail
    refine (same_n A3 A q q c3 c (lebT t) (b.take q) _ HQL.out (by rw [HTK.out]; exact HQL.out) x3 ((hA.below hb3).take_ q) (by omega) true (by rw [HTK.out]; simp)).mono ?_
    rintro e w4 ⟨rfl, gb⟩
    have hb4 := below_step hb3 gb
    go_wp2_with fail
    go_ret
    exact ⟨rfl, hb4⟩
  · have ht0 : t = [] := HB.out h0
    subst ht0
    have hz : ((s'.2 : Int) != 0) = true := by simp; omega
    clear h0
    generalize hf : s'.2 = f at *
    clear hf
    refine (HE.out).mono ?_
    rintro e w' ⟨rfl, rfl⟩
    go_wp2_with fail
    go_ret
    exact ⟨rfl, hb2⟩

set_option maxHeartbeats 4000000 in
theorem one_num (A : Option Addr) (n c : Nat) (b : List Nat) (z : Int) (w : World) (hn : b.length = n) (hs : Slice A n c) (hA : Holds w A (bytesV b)) (hb : Bytes b) (h : n ≤ 4000) (z1 : -9223372036854775808 ≤ z) (z2 : z ≤ 9223372036854775807) :
    Calls Try.prog 6 #[.slice A n c, .int .i64 z, .bool false] w fun e w' => e = .returned (.bool true) ∧ Below w.heap.size w w' := by
  have t1 : ¬ (4000 : Int) < (n : Int) := by omega
  have HN := Lib.hid fun w hA => new_n A n c b w hn hs hA (by omega) hb
  have ac1 : n ≤ c := hs.1
  have ac2 : c ≤ 9223372036854775807 := hs.2.1
  have HNL := Lib.hid hn
  clear hn hs hb
  go_enter Try.func6, Try.ntmps6
  go_wp2_with fail
  refine (awake_any _).mono ?_
  rintro e w0 ⟨rfl, hb0⟩
  go_wp2_with fail
  refine (HN.out _ (hA.below hb0)).mono ?_
  rintro e w1 ⟨g, rfl, hg, hR, gb⟩
  have hb1 := below_step hb0 gb
  have hgw : w.heap.size ≤ g := by have := hb0.size; omega
  clear hb0 gb
  go_wp2_with fail
  have HR := Lib.hid (onum_any _ g z _ _ hR z1 z2)
  have HB := Lib.hid (numS_bad (most := z) (s := (b, 0)))
  have HO := Lib.hid (numS_ok (most := z) (s := (b, 0)))
  clear hR
  generalize numS z (b, 0) = res at *
  obtain ⟨v, s'⟩ := res
  simp only at HB HO HR
  refine (HR.out).mono ?_
  rintro e w2 ⟨rfl, hR2, hT2⟩
  have hb2 := hT2.below hb1 hb1.size hgw
  clear hb1 hT2 HR
  go_wp2_with fail
  have HE := Lib.hid (oerr_any _ g _ _ hR2)
  have HL := Lib.hid fun w h => oleft_any (47, w0.heap.size) g s' w h
  by_cases h0 : s'.2 = 0
  · obtain ⟨k0, _, k1, k2⟩ := HO.out h0
    obtain ⟨q, hq⟩ : ∃ q, (leb v).length = q := ⟨_, rfl⟩
    obtain ⟨left, hleft⟩ : ∃ left, left = s'.1.length := ⟨_, rfl⟩
    have hsum : q + left = n := by rw [← hq, hleft, ← HNL.out, ← k1, List.length_append]
    have hqi : (n : Int) - (left : Int) = (q : Int) := by omega
    have htk : b.take q = leb v := by rw [← hq, ← k1]; exact List.take_left
    have HQ := Lib.hid fun w B hC => put_one v q w B (by omega) hC hq
    rw [← hleft] at HL
    have HTK := Lib.hid htk
    have HQL := Lib.hid hq
    have hqn : q ≤ n := by omega
    rw [h0] at HE
    have g1 := holds_at w2 #[.int .i64 v] 3 (intsV [(v : Int)]) rfl
    have gb1 := (Below.refl w2.heap.size w2).alloc (Nat.le_refl _) (.cells #[.int .i64 v] 3)
    have hb2' := below_step hb2 gb1
    have hR2' := hR2.below gb1
    clear hq hleft k1 htk h0 hb2 hR2 gb1
    refine (HE.out).mono ?_
    rintro e w' ⟨rfl, rfl⟩
    go_wp2_with fail
    ((with_reducible refine (HQ.out _ _ g1).mono ?_); rintro e w3 ⟨A3, c3, rfl, ho3, hs3, gb⟩)
    have hb3 := below_step hb2' gb
    have x3 := own_holds ho3
    have hR3 := hR2'.below gb
    clear hb2' ho3 gb g1 hR2' HE
    go_wp2_with fail
    refine (HL.out _ hR3).mono ?_
    rintro e w' ⟨rfl, rfl⟩
    go_wp2_with fail
    refine (same_n A3 A q q c3 c (leb v) (b.take q) _ HQL.out (by rw [HTK.out]; exact HQL.out) x3 ((hA.below hb3).take_ q) (by omega) true (by rw [HTK.out]; simp)).mono ?_
    rintro e w4 ⟨rfl, gb⟩
    have hb4 := below_step hb3 gb
    go_wp2_with fail
    go_ret
    exact ⟨rfl, hb4⟩
  · obtain ⟨e1, e2⟩ := HB.out h0
    subst e1
    have hz : ((s'.2 : Int) != 0) = true := by simp; omega
    rw [e2, HNL.out] at HL
    clear h0 e2
    generalize hf : s'.2 = f at *
    clear hf
    refine (HE.out).mono ?_
    rintro e w' ⟨rfl, rfl⟩
    go_wp2_with fail
    refine (HL.out _ hR2).mono ?_
    rintro e w' ⟨rfl, rfl⟩
    go_wp2_with fail
    go_ret
    exact ⟨rfl, hb2⟩
theorem one_any (A : Option Addr) (c : Nat) (b : List Nat) (z : Int) (r : Bool) (w : World) (hs : Slice A b.length c) (hA : Holds w A (bytesV b)) (hb : Bytes b) (z1 : -9223372036854775808 ≤ z) (z2 : z ≤ 9223372036854775807) :
    Calls Try.prog 6 #[.slice A b.length c, .int .i64 z, .bool r] w fun e w' => e = .returned (.bool true) ∧ Below w.heap.size w w' := by
  by_cases h : 4000 < b.length
  · exact one_long A _ c z r w h
  · cases r with
    | true => exact one_row A _ c b z w rfl hs hA hb (by omega)
    | false => exact one_num A _ c b z w rfl hs hA hb (by omega) z1 z2
end Go.Proofs.Ytbpbokdomdmclaa
