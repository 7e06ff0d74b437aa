/- What NatKeeps asks: answers as new memory, each apart from the others. -/
import Derived.Test.YtegbhenchmfngaaApart
import Derived.Test.YtegbhenchmfngaaDivAll
import Derived.Test.YtegbhenchmfngaaShift
import Derived.Test.YtegbhenchmfngaaDecimal
namespace Go.Proofs.Ytegbhenchmfngaa
open Go.RowKit

/-- The slice A, n, c lies in new memory: in a block from lo on, below hi. -/
def New (lo hi : Nat) (w : World) (A : Option Addr) (n c : Nat) : Prop :=
  n ≤ c ∧ c ≤ 1152921504606846976 ∧ ((A = none ∧ c = 0) ∨ ∃ g F, A = some ⟨g, 0, none⟩ ∧ lo ≤ g ∧ g < hi ∧ RowN w g c F)
namespace New
variable {lo hi n c N : Nat} {w w' : World} {A : Option Addr}
theorem of_own {B : Nat} (h : Own B w A n c N) : New B w.heap.size w A n c :=
  ⟨h.le, h.small, h.fresh.imp id fun ⟨g, F, e, hg, hr⟩ => ⟨g, F, e, hg, hr.lt, hr⟩⟩
theorem none_ (lo hi : Nat) (w : World) : New lo hi w none 0 0 := ⟨Nat.le_refl _, by omega, .inl ⟨rfl, rfl⟩⟩
theorem below (h : New lo hi w A n c) (hb : Below w.heap.size w w') : New lo hi w' A n c :=
  ⟨h.1, h.2.1, h.2.2.imp id fun ⟨g, F, e, h1, h2, hr⟩ => ⟨g, F, e, h1, h2, hr.below hb⟩⟩
theorem at_ (h : New lo hi w A n c) {b o : Nat} (e : A = some ⟨b, o, none⟩) : lo ≤ b ∧ b < hi := by
  rcases h.2.2 with ⟨h1, _⟩ | ⟨g, F, h1, h2, h3, _⟩
  · rw [h1] at e; cases e
  · rw [h1] at e; cases e; exact ⟨h2, h3⟩
end New

theorem divmod_new (A B : Option Addr) (n c m d M N : Nat) (w : World) (hM : IsNat w A n M) (hN : IsNat w B m N) (hc : n ≤ c) (hd : m ≤ d) (hcm : c ≤ 9223372036854775807) (hdm : d ≤ 9223372036854775807) (hn : n ≤ 1099511627775) :
    Calls Try.prog 23 #[.slice A n c, .slice B m d] w fun e w' => ∃ A1 n1 c1 A2 n2 c2 E, e = .returned (.tuple #[.slice A1 n1 c1, .slice A2 n2 c2, .int .i64 E]) ∧
      New w.heap.size w'.heap.size w' A1 n1 c1 ∧ New w.heap.size w'.heap.size w' A2 n2 c2 ∧ Apart2 A1 A2 ∧ Below w.heap.size w w' := by
  rcases Nat.eq_zero_or_pos N with h0 | h0
  · subst h0
    refine (divmod_zero A B n c m d M w hM hN hc hd hcm hdm).mono fun e w' he => ?_
    obtain ⟨rfl, rfl⟩ := he
    exact ⟨_, _, _, _, _, _, _, rfl, New.none_ _ _ _, New.none_ _ _ _, (fun g h => by cases h), Below.refl _ _⟩
  · refine (divmod_any A B n c m d M N w hM hN hc hd hcm hdm hn h0).mono fun e w' he => ?_
    obtain ⟨A1, c1, A2, c2, rfl, o1, o2, ap, hb⟩ := he
    exact ⟨_, _, _, _, _, _, _, rfl, New.of_own o1, New.of_own o2, ap, hb⟩
theorem shift_new (A : Option Addr) (n c M : Nat) (z : Int) (w : World) (hM : IsNat w A n M) (hc : n ≤ c) (hcm : c ≤ 9223372036854775807) (hn : n ≤ 1099511627776) :
    Calls Try.prog 27 #[.slice A n c, .int .i64 z] w fun e w' => ∃ A1 n1 c1 E, e = .returned (.tuple #[.slice A1 n1 c1, .int .i64 E]) ∧ New w.heap.size w'.heap.size w' A1 n1 c1 ∧ Below w.heap.size w w' := by
  by_cases h : 65536 < z ∨ z < -65536
  · refine (shift_large A n c z w h).mono fun e w' he => ?_
    obtain ⟨rfl, rfl⟩ := he
    exact ⟨_, _, _, _, rfl, New.none_ _ _ _, Below.refl _ _⟩
  · by_cases h0 : 0 ≤ z
    · obtain ⟨b, rfl⟩ : ∃ b : Nat, z = b := ⟨z.toNat, by omega⟩
      refine (shift_up A n c M b w hM hc hcm hn (by omega)).mono fun e w' he => ?_
      obtain ⟨A', c', rfl, ho, hb⟩ := he
      exact ⟨_, _, _, _, rfl, New.of_own ho, hb⟩
    · obtain ⟨b, rfl⟩ : ∃ b : Nat, z = -(b : Int) := ⟨(-z).toNat, by omega⟩
      refine (shift_down A n c M b w hM hc hcm hn (by omega) (by omega)).mono fun e w' he => ?_
      obtain ⟨A', c', rfl, ho, hb⟩ := he
      exact ⟨_, _, _, _, rfl, New.of_own ho, hb⟩
theorem small_plain (A : Option Addr) (n c M : Nat) (w : World) (hM : IsNat w A n M) (hc : n ≤ c) (hcm : c ≤ 9223372036854775807) :
    Calls Try.prog 29 #[.slice A n c] w fun e w' => ∃ v t, e = .returned (.tuple #[.int .u64 v, .bool t]) ∧ w = w' := by
  by_cases h : M < 18446744073709551616
  · exact (small_yes A n c M w hM hc hcm h).mono fun e w' he => ⟨_, _, he⟩
  · exact (small_big A n c M w hM hc hcm (by omega)).mono fun e w' he => ⟨_, _, he⟩

/-- Eight answers: three of them older than the other five. -/
theorem apart_eight (A0 A1 A2 A3 A4 A5 A6 A7 : Option Addr) (n0 n1 n2 n3 n4 n5 n6 n7 c0 c1 c2 c3 c4 c5 c6 c7 : Nat) (w : World)
    (sq tq ss ts s0 t0 s1 t1 s2 t2 s3 t3 s7 t7 : Nat)
    (h0 : New s0 t0 w A0 n0 c0) (h1 : New s1 t1 w A1 n1 c1) (h2 : New s2 t2 w A2 n2 c2) (h3 : New s3 t3 w A3 n3 c3)
    (h4 : New sq tq w A4 n4 c4) (h5 : New sq tq w A5 n5 c5) (h6 : New ss ts w A6 n6 c6) (h7 : New s7 t7 w A7 n7 c7) (hap : Apart2 A4 A5)
    (z1 : sq ≤ tq) (z2 : tq ≤ ss) (z3 : ss ≤ ts) (z4 : ts ≤ s0) (z5 : s0 ≤ t0) (z6 : t0 ≤ s1) (z7 : s1 ≤ t1) (z8 : t1 ≤ s2) (z9 : s2 ≤ t2) (z10 : t2 ≤ s3) (z11 : s3 ≤ t3) (z12 : t3 ≤ s7) (z13 : s7 ≤ t7) :
    Calls Try.prog 40 #[.slice (some ⟨w.heap.size, 0, none⟩) 8 8]
      (w.alloc (.cells #[.slice A0 n0 c0, .slice A1 n1 c1, .slice A2 n2 c2, .slice A3 n3 c3, .slice A4 n4 c4, .slice A5 n5 c5, .slice A6 n6 c6, .slice A7 n7 c7] 23)) fun e w' =>
      e = .returned (.bool true) ∧ ∃ S, Among S (w.alloc (.cells #[.slice A0 n0 c0, .slice A1 n1 c1, .slice A2 n2 c2, .slice A3 n3 c3, .slice A4 n4 c4, .slice A5 n5 c5, .slice A6 n6 c6, .slice A7 n7 c7] 23)) w' ∧
        ∀ k, S k → sq ≤ k ∧ k < ts ∨ s0 ≤ k ∧ k < t7 := by
  have hnew : ∀ i, i < 8 → New (sel [s0, s1, s2, s3, sq, sq, ss, s7] 0 i) (sel [t0, t1, t2, t3, tq, tq, ts, t7] 0 i) w (sel [A0, A1, A2, A3, A4, A5, A6, A7] none i) (sel [n0, n1, n2, n3, n4, n5, n6, n7] 0 i) (sel [c0, c1, c2, c3, c4, c5, c6, c7] 0 i) := fun i hi => by
    match i, hi with
    | 0, _ => exact h0
    | 1, _ => exact h1
    | 2, _ => exact h2
    | 3, _ => exact h3
    | 4, _ => exact h4
    | 5, _ => exact h5
    | 6, _ => exact h6
    | 7, _ => exact h7
  have hpart : ∀ i j, i < 8 → j < 8 → i ≠ j → (i = 4 ∧ j = 5) ∨ (i = 5 ∧ j = 4) ∨
      sel [t0, t1, t2, t3, tq, tq, ts, t7] 0 i ≤ sel [s0, s1, s2, s3, sq, sq, ss, s7] 0 j ∨ sel [t0, t1, t2, t3, tq, tq, ts, t7] 0 j ≤ sel [s0, s1, s2, s3, sq, sq, ss, s7] 0 i := by
    intro i j hi hj hne
    have ei : i = 0 ∨ i = 1 ∨ i = 2 ∨ i = 3 ∨ i = 4 ∨ i = 5 ∨ i = 6 ∨ i = 7 := by omega
    have ej : j = 0 ∨ j = 1 ∨ j = 2 ∨ j = 3 ∨ j = 4 ∨ j = 5 ∨ j = 6 ∨ j = 7 := by omega
    rcases ei with rfl | rfl | rfl | rfl | rfl | rfl | rfl | rfl <;> rcases ej with rfl | rfl | rfl | rfl | rfl | rfl | rfl | rfl <;>
      first
        | exact absurd rfl hne
        | exact .inl ⟨rfl, rfl⟩
        | exact .inr (.inl ⟨rfl, rfl⟩)
        | (simp only [sel, List.getD_cons_zero, List.getD_cons_succ]; omega)
  refine (apart_any w.heap.size 8 (sel [A0, A1, A2, A3, A4, A5, A6, A7] none) (sel [n0, n1, n2, n3, n4, n5, n6, n7] 0) (sel [c0, c1, c2, c3, c4, c5, c6, c7] 0) _ (by decide) (fun i hi => ?_) (fun i hi => ?_) (fun i j g g' hi hj hne e1 e2 => ?_)).mono fun e w' he => ?_
  · rw [World.cell?_alloc_at _ _ _ _ rfl]
    match i, hi with
    | 0, _ => rfl
    | 1, _ => rfl
    | 2, _ => rfl
    | 3, _ => rfl
    | 4, _ => rfl
    | 5, _ => rfl
    | 6, _ => rfl
    | 7, _ => rfl
  · obtain ⟨a1, a2, a3⟩ := hnew i hi
    refine ⟨a1, a2, a3.imp id fun ⟨g, F, e, _, _, hr⟩ => ⟨g, F, e, ?_, hr.alloc _⟩⟩
    have := hr.lt
    omega
  · have b1 := (hnew i hi).at_ e1
    have b2 := (hnew j hj).at_ e2
    rcases hpart i j hi hj hne with ⟨rfl, rfl⟩ | ⟨rfl, rfl⟩ | h | h
    · rintro rfl
      exact hap g e1 e2
    · rintro rfl
      exact hap g e2 e1
    · omega
    · omega
  · obtain ⟨rfl, ham⟩ := he
    refine ⟨rfl, _, ham, fun k ⟨i, hi, hk⟩ => ?_⟩
    have b1 := (hnew i hi).at_ hk
    have ei : i = 0 ∨ i = 1 ∨ i = 2 ∨ i = 3 ∨ i = 4 ∨ i = 5 ∨ i = 6 ∨ i = 7 := by omega
    rcases ei with rfl | rfl | rfl | rfl | rfl | rfl | rfl | rfl <;>
      (simp only [sel, List.getD_cons_zero, List.getD_cons_succ] at b1; omega)
end Go.Proofs.Ytegbhenchmfngaa
