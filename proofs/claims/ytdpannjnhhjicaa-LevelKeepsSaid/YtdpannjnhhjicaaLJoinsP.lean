/- Levels under levels: what goes through them (lists and numbers alone). -/
import Derived.Test.YtdpannjnhhjicaaLTightP
import Derived.Test.YtdpannjnhhjicaaLRefMaxP
import Derived.Test.YtdpannjnhhjicaaLSays
import Derived.Test.YtdpannjnhhjicaaLAwake
namespace Go.Proofs.Ytdpannjnhhjicaa
open Go.RowKit

/-- An atom is under another one, told without wrapping. -/
def UA (d : Dist) (x y : Atom2) : Prop := ∃ k, d x.1 y.1 = some k ∧ x.2 - y.2 ≤ k
def Fit (n : Nat) (l : List Atom2) : Prop := ∀ x ∈ l, (0 ≤ x.1 ∧ x.1 ≤ n) ∧ 0 ≤ x.2 ∧ x.2 ≤ 1000
def UL (d : Dist) (a b : List Atom2) : Prop := ∀ x ∈ a, ∃ y ∈ b, UA d x y
theorem right_fit {n : Nat} {l : List Atom2} (h : rightS n l = true) : Fit n l := right_in h
theorem underA_iff {d : Dist} {x y : Atom2} (hx : 0 ≤ x.2 ∧ x.2 ≤ 1000) (hy : 0 ≤ y.2 ∧ y.2 ≤ 1000) : underA d x y = true ↔ UA d x y := by
  unfold underA UA
  rw [IntWalk.wrap64_in _ ⟨by omega, by omega⟩]
  cases d x.1 y.1 <;> simp
theorem underD_iff {n : Nat} {d : Dist} {a b : List Atom2} (ha : Fit n a) (hb : Fit n b) : underD d a b = true ↔ UL d a b := by
  unfold underD UL
  rw [List.all_eq_true]
  constructor
  · intro h x hx
    obtain ⟨y, hy, h2⟩ := List.any_eq_true.1 (h x hx)
    exact ⟨y, hy, (underA_iff (ha x hx).2 (hb y hy).2).1 h2⟩
  · intro h x hx
    obtain ⟨y, hy, h2⟩ := h x hx
    exact List.any_eq_true.2 ⟨y, hy, (underA_iff (ha x hx).2 (hb y hy).2).2 h2⟩
theorem UA.trans {n : Nat} {E : List Ord3} {d : Dist} (hD : IsDist n E d) {x y z : Atom2} (h1 : UA d x y) (h2 : UA d y z) : UA d x z := by
  obtain ⟨k, hk, h3⟩ := h1
  obtain ⟨l, hl, h4⟩ := h2
  obtain ⟨c, hc, h5⟩ := hD.tri _ _ _ _ _ hk hl
  exact ⟨c, hc, by omega⟩
theorem UA.same {n : Nat} {E : List Ord3} {d : Dist} (hD : IsDist n E d) {x y : Atom2} (hx : 0 ≤ x.1 ∧ x.1 ≤ n) (h1 : x.1 = y.1) (h2 : x.2 ≤ y.2) : UA d x y := ⟨0, by rw [← h1]; exact hD.diag _ hx.1 hx.2, by omega⟩
theorem UL.trans {n : Nat} {E : List Ord3} {d : Dist} (hD : IsDist n E d) {a b c : List Atom2} (h1 : UL d a b) (h2 : UL d b c) : UL d a c := fun x hx => by
  obtain ⟨y, hy, h3⟩ := h1 x hx
  obtain ⟨z, hz, h4⟩ := h2 y hy
  exact ⟨z, hz, h3.trans hD h4⟩
theorem UL.refl {n : Nat} {E : List Ord3} {d : Dist} (hD : IsDist n E d) {a : List Atom2} (ha : Fit n a) : UL d a a := fun x hx => ⟨x, hx, UA.same hD (ha x hx).1 rfl (Int.le_refl _)⟩
theorem mem_up {z : Int} {a : List Atom2} {x : Atom2} (hx : x ∈ a) : (x.1, x.2 + z) ∈ upS z a := List.mem_map.2 ⟨x, hx, rfl⟩
theorem UL.up {n : Nat} {E : List Ord3} {d : Dist} (hD : IsDist n E d) {a : List Atom2} (ha : Fit n a) : UL d a (upS 1 a) := fun x hx => ⟨_, mem_up hx, UA.same hD (ha x hx).1 rfl (by simp only; omega)⟩
theorem rightFrom_upS {v : Int} {z : Int} (hz : 0 ≤ z) : ∀ {l : List Atom2} {least : Int}, rightFrom v least l = true → l.all (fitsUp z) = true → rightFrom v least (upS z l) = true := by
  intro l
  induction l with
  | nil => intro least _ _; rfl
  | cons x r ih =>
    intro least h hf
    obtain ⟨h1, h2, h3⟩ := rightFrom_cons h
    simp only [List.all_cons, Bool.and_eq_true, fitsUp, decide_eq_true_eq] at hf
    have e : upS z (x :: r) = (x.1, x.2 + z) :: upS z r := rfl
    rw [e]
    simp only [rightFrom, withinB, Bool.and_eq_true, decide_eq_true_eq]
    exact ⟨⟨⟨h1.1, h1.2⟩, by omega, by omega⟩, ih h3 (by simpa [fitsUp] using hf.2)⟩
theorem right_up {m : Nat} {a : List Atom2} (h : rightS m a = true) (he : upErr 1 a = 0) : rightS m (upS 1 a) = true := by
  have h2 := h
  simp only [rightS, Bool.and_eq_true] at h ⊢
  refine ⟨⟨h.1.1, by rw [show (upS 1 a).length = a.length by simp [upS]]; exact h.1.2⟩, rightFrom_upS (by omega) h.2 ?_⟩
  unfold upErr at he
  split at he
  · split at he
    · omega
    · split at he
      · rename_i h3; exact h3
      · omega
  · omega
theorem right_max {m : Nat} {a : List Atom2} (h : rightS m a = true) (hm : m ≤ 16) : rightS 16 a = true := by
  simp only [rightS, withinB, Bool.and_eq_true, decide_eq_true_eq] at h ⊢
  refine ⟨⟨⟨by omega, by omega⟩, h.1.2⟩, ?_⟩
  have aux : ∀ (l : List Atom2) (least : Int), rightFrom m least l = true → rightFrom 16 least l = true := by
    intro l
    induction l with
    | nil => intro least _; rfl
    | cons x r ih =>
      intro least h
      obtain ⟨h1, h2, h3⟩ := rightFrom_cons h
      simp only [rightFrom, withinB, Bool.and_eq_true, decide_eq_true_eq]
      exact ⟨⟨⟨h1.1, by omega⟩, h2⟩, ih _ h3⟩
  exact aux _ _ h.2
theorem merge_right {v : Int} : ∀ (k : Nat) (a b : List Atom2) (least : Int), a.length + b.length ≤ k → rightFrom v least a = true → rightFrom v least b = true → rightFrom v least (mergeS a b) = true := by
  intro k
  induction k with
  | zero =>
    intro a b least hk ha hb
    have : a = [] := List.eq_nil_of_length_eq_zero (by omega)
    subst this
    simpa [mergeS] using hb
  | succ k ih =>
    intro a b least hk ha hb
    cases a with
    | nil => simpa [mergeS] using hb
    | cons x a =>
      cases b with
      | nil => rw [mergeS_nil]; exact ha
      | cons y b =>
        obtain ⟨a1, a2, a3⟩ := rightFrom_cons ha
        obtain ⟨b1, b2, b3⟩ := rightFrom_cons hb
        simp only [List.length_cons] at hk
        have mk : ∀ (z : Atom2) (l : List Atom2), (least ≤ z.1 ∧ z.1 ≤ v) → (0 ≤ z.2 ∧ z.2 ≤ 1000) → rightFrom v (z.1 + 1) l = true → rightFrom v least (z :: l) = true := fun z l h1 h2 h3 => by
          simp only [rightFrom, withinB, Bool.and_eq_true, decide_eq_true_eq]
          exact ⟨⟨h1, h2⟩, h3⟩
        have more : ∀ (z : Atom2) (l : List Atom2) (s : Int), s ≤ z.1 → (z.1 ≤ v) → (0 ≤ z.2 ∧ z.2 ≤ 1000) → rightFrom v (z.1 + 1) l = true → rightFrom v s (z :: l) = true := fun z l s h1 h1' h2 h3 => by
          simp only [rightFrom, withinB, Bool.and_eq_true, decide_eq_true_eq]
          exact ⟨⟨⟨h1, h1'⟩, h2⟩, h3⟩
        by_cases h1 : x.1 < y.1
        · rw [merge_lo h1]
          exact mk _ _ a1 a2 (ih _ _ _ (by simp only [List.length_cons]; omega) a3 (more _ _ _ (by omega) b1.2 b2 b3))
        · by_cases h2 : y.1 < x.1
          · rw [merge_hi h2]
            exact mk _ _ b1 b2 (ih _ _ _ (by simp only [List.length_cons]; omega) (more _ _ _ (by omega) a1.2 a2 a3) b3)
          · have e : x.1 = y.1 := by omega
            rw [merge_eq e]
            refine mk _ _ a1 ⟨by simp only; omega, by simp only; omega⟩ (ih _ _ _ (by omega) a3 ?_)
            rw [e]; exact b3
/-- What stands in the greater of two levels. -/
theorem merge_mem : ∀ (k : Nat) (a b : List Atom2), a.length + b.length ≤ k → (∀ z ∈ mergeS a b, z ∈ a ∨ z ∈ b) ∧ (∀ x ∈ a, ∃ z ∈ mergeS a b, z.1 = x.1 ∧ x.2 ≤ z.2) ∧ ∀ y ∈ b, ∃ z ∈ mergeS a b, z.1 = y.1 ∧ y.2 ≤ z.2 := by
  intro k
  induction k with
  | zero =>
    intro a b hk
    have h1 : a = [] := List.eq_nil_of_length_eq_zero (by omega)
    have h2 : b = [] := List.eq_nil_of_length_eq_zero (by omega)
    subst h1 h2
    simp [mergeS]
  | succ k ih =>
    intro a b hk
    cases a with
    | nil => simp only [mergeS]; exact ⟨fun z hz => Or.inr hz, fun x hx => (by cases hx), fun y hy => ⟨y, hy, rfl, Int.le_refl _⟩⟩
    | cons x a =>
      cases b with
      | nil => rw [mergeS_nil]; exact ⟨fun z hz => Or.inl hz, fun y hy => ⟨y, hy, rfl, Int.le_refl _⟩, fun y hy => (by cases hy)⟩
      | cons y b =>
        simp only [List.length_cons] at hk
        by_cases h1 : x.1 < y.1
        · rw [merge_lo h1]
          obtain ⟨p, q, r⟩ := ih a (y :: b) (by simp only [List.length_cons]; omega)
          refine ⟨fun z hz => ?_, fun u hu => ?_, fun u hu => ?_⟩
          · rcases List.mem_cons.1 hz with rfl | hz
            · exact Or.inl (by simp)
            · rcases p z hz with h | h
              · exact Or.inl (by simp [h])
              · exact Or.inr h
          · rcases List.mem_cons.1 hu with rfl | hu
            · exact ⟨u, by simp, rfl, Int.le_refl _⟩
            · obtain ⟨z, hz, h3⟩ := q u hu
              exact ⟨z, by simp [hz], h3⟩
          · obtain ⟨z, hz, h3⟩ := r u hu
            exact ⟨z, by simp [hz], h3⟩
        · by_cases h2 : y.1 < x.1
          · rw [merge_hi h2]
            obtain ⟨p, q, r⟩ := ih (x :: a) b (by simp only [List.length_cons]; omega)
            refine ⟨fun z hz => ?_, fun u hu => ?_, fun u hu => ?_⟩
            · rcases List.mem_cons.1 hz with rfl | hz
              · exact Or.inr (by simp)
              · rcases p z hz with h | h
                · exact Or.inl h
                · exact Or.inr (by simp [h])
            · obtain ⟨z, hz, h3⟩ := q u hu
              exact ⟨z, by simp [hz], h3⟩
            · rcases List.mem_cons.1 hu with rfl | hu
              · exact ⟨u, by simp, rfl, Int.le_refl _⟩
              · obtain ⟨z, hz, h3⟩ := r u hu
                exact ⟨z, by simp [hz], h3⟩
          · have e : x.1 = y.1 := by omega
            rw [merge_eq e]
            obtain ⟨p, q, r⟩ := ih a b (by omega)
            refine ⟨fun z hz => ?_, fun u hu => ?_, fun u hu => ?_⟩
            · rcases List.mem_cons.1 hz with rfl | hz
              · rcases Int.le_total x.2 y.2 with h | h
                · exact Or.inr (by rw [e, Int.max_eq_right h]; simp)
                · exact Or.inl (by rw [Int.max_eq_left h]; simp)
              · rcases p z hz with h | h
                · exact Or.inl (by simp [h])
                · exact Or.inr (by simp [h])
            · rcases List.mem_cons.1 hu with rfl | hu
              · exact ⟨_, List.mem_cons_self .., rfl, by simp only; omega⟩
              · obtain ⟨z, hz, h3⟩ := q u hu
                exact ⟨z, by simp [hz], h3⟩
            · rcases List.mem_cons.1 hu with rfl | hu
              · exact ⟨_, List.mem_cons_self .., e, by simp only; omega⟩
              · obtain ⟨z, hz, h3⟩ := r u hu
                exact ⟨z, by simp [hz], h3⟩
theorem right_merge {m : Nat} {a b : List Atom2} (ha : rightS m a = true) (hb : rightS m b = true) (he : maxErr a b = 0) (hm : m ≤ 16) : rightS m (mergeS a b) = true := by
  have h1 := mergeS_pos (b := b) (right_pos ha)
  have h2 : (mergeS a b).length ≤ 4 := by
    unfold maxErr at he
    rw [if_pos ⟨right_max ha hm, right_max hb hm⟩] at he
    split at he <;> omega
  simp only [rightS, Bool.and_eq_true] at ha hb ⊢
  exact ⟨⟨ha.1.1, by simp [withinB]; omega⟩, merge_right _ a b 0 (Nat.le_refl _) ha.2 hb.2⟩
theorem UL.merge_left {n : Nat} {E : List Ord3} {d : Dist} (hD : IsDist n E d) {a b : List Atom2} (ha : Fit n a) : UL d a (mergeS a b) := fun x hx => by
  obtain ⟨z, hz, h1, h2⟩ := (merge_mem _ a b (Nat.le_refl _)).2.1 x hx
  exact ⟨z, hz, UA.same hD (ha x hx).1 h1.symm h2⟩
theorem UL.merge_more {n : Nat} {E : List Ord3} {d : Dist} (hD : IsDist n E d) {a b : List Atom2} (hb : Fit n b) : UL d b (mergeS a b) := fun x hx => by
  obtain ⟨z, hz, h1, h2⟩ := (merge_mem _ a b (Nat.le_refl _)).2.2 x hx
  exact ⟨z, hz, UA.same hD (hb x hx).1 h1.symm h2⟩
theorem UL.merge_iff {n : Nat} {E : List Ord3} {d : Dist} (hD : IsDist n E d) {a b c : List Atom2} (ha : Fit n a) (hb : Fit n b) : UL d (mergeS a b) c ↔ UL d a c ∧ UL d b c := by
  constructor
  · intro h
    exact ⟨(UL.merge_left hD ha).trans hD h, (UL.merge_more hD hb).trans hD h⟩
  · rintro ⟨h1, h2⟩ z hz
    rcases (merge_mem _ a b (Nat.le_refl _)).1 z hz with h | h
    · exact h1 z h
    · exact h2 z h
theorem underS_iff {m : Nat} {E : List Ord3} {d : Dist} (hd : distS m E = some d) {a b : List Atom2} (ha : rightS m a = true) (hb : rightS m b = true) : underS m E a b = true ↔ UL d a b := by
  unfold underS
  rw [hd, ha, hb]
  simpa using underD_iff (right_fit ha) (right_fit hb)
theorem bool_iff {a b : Bool} (h : a = true ↔ b = true) : a = b := by cases a <;> cases b <;> simp_all
theorem right_wide {m : Nat} {l : List Atom2} (h : rightS m l = true) : WideA l := fun x hx => by
  have h1 := right_in h x hx
  have h2 := right_var h
  unfold I64
  omega
/-- What LevelJoins looks at, of three right levels. -/
theorem joins_facts {m : Nat} {E : List Ord3} {d : Dist} (hd : distS m E = some d) {a b c : List Atom2} (ha : rightS m a = true) (hb : rightS m b = true) (hc : rightS m c = true) :
    underS m E a a = true ∧ (underS m E a b = true → underS m E b c = true → underS m E a c = true) ∧ (upErr 1 a = 0 → underS m E a (upRes 1 a) = true ∧ WideA (upRes 1 a)) ∧
    ((maxErr a b = 0 ∧ underS m E a (maxRes a b) = true ∧ underS m E b (maxRes a b) = true ∧ underS m E (maxRes a b) c = (underS m E a c && underS m E b c) ∧ WideA (maxRes a b)) ∨ (maxErr a b = 5 ∧ 4 < a.length + b.length)) := by
  have hm := (dist_some hd).2.1
  have hD := ((err_right (dist_some hd).1).1 d hd).2.1
  refine ⟨(underS_iff hd ha ha).2 (UL.refl hD (right_fit ha)), fun h1 h2 => (underS_iff hd ha hc).2 (((underS_iff hd ha hb).1 h1).trans hD ((underS_iff hd hb hc).1 h2)), fun h => ?_, ?_⟩
  · have e : upRes 1 a = upS 1 a := by simp [upRes, h]
    have hu := right_up ha h
    rw [e]
    exact ⟨(underS_iff hd ha hu).2 (UL.up hD (right_fit ha)), right_wide hu⟩
  · by_cases h : maxErr a b = 0
    · have e : maxRes a b = mergeS a b := by simp [maxRes, h]
      have hu := right_merge ha hb h hm
      rw [e]
      refine Or.inl ⟨h, (underS_iff hd ha hu).2 (UL.merge_left hD (right_fit ha)), (underS_iff hd hb hu).2 (UL.merge_more hD (right_fit hb)), bool_iff ?_, right_wide hu⟩
      rw [underS_iff hd hu hc, Bool.and_eq_true, underS_iff hd ha hc, underS_iff hd hb hc]
      exact UL.merge_iff hD (right_fit ha) (right_fit hb)
    · refine Or.inr ?_
      have hl := mergeS_len a b
      unfold maxErr at h ⊢
      rw [if_pos ⟨right_max ha hm, right_max hb hm⟩] at h ⊢
      split
      · exact ⟨rfl, by omega⟩
      · rename_i h2; rw [if_neg h2] at h; exact absurd rfl h
theorem under_l (v : Int) (A B C : Option Addr) (c n nb b' nc c' : Nat) (E : List Ord3) (a b : List Atom2) (w : World) (hn : E.length = n) (hA : Holds w A (ordsV E)) (hm : n ≤ 9223372036854775807) (hB : LevelAt w B nb b' a) (hC : LevelAt w C nc c' b) (hWa : WideA a) (hWb : WideA b) (r : Bool) (hr : underS v E a b = r) :
    Calls Try.prog 30 #[.int .i64 v, .slice A n c, .slice B nb b', .slice C nc c'] w fun e w' => e = .returned (.bool r) ∧ Below w.heap.size w w' :=
  under_n v A B C c n nb b' nc c' E a b w hn hB.1 hC.1 hA hm hB.2.2 hC.2.2 hWa hWb (by have := hB.2.1; unfold Slice at this; omega) (by have := hC.2.1; unfold Slice at this; omega) r hr
end Go.Proofs.Ytdpannjnhhjicaa
