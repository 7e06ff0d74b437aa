/- The document's way: values raised step by step from one variable on. -/
import Derived.Test.YtdpannjnhhjicaaLDist
namespace Go.Proofs.Ytdpannjnhhjicaa

def NONE : Int := -1000000000
def at0 (l : List Int) (v : Int) : Int := l.getD v.toNat NONE
/-- One step: v is raised, if u has a value. -/
def fires (l : List Int) (s : Ord3) : Bool := decide (at0 l s.1 ≠ NONE) && decide (at0 l s.2.2 < at0 l s.1 + s.2.1)
def relax (l : List Int) (s : Ord3) : List Int := if fires l s then l.set s.2.2.toNat (at0 l s.1 + s.2.1) else l
def relaxT (x : List Int × Bool) (s : Ord3) : List Int × Bool := (relax x.1 s, x.2 || fires x.1 s)
def zeros (k : Nat) : List Ord3 := (List.range k).map fun (v : Nat) => ((0 : Int), (0 : Int), (v : Int))
def steps (n : Nat) (E : List Ord3) : List Ord3 := zeros (n + 1) ++ E
def roundT (S : List Ord3) (l : List Int) : List Int × Bool := S.foldl relaxT (l, false)
def roundsT (S : List Ord3) : Nat → List Int → Option (List Int)
  | 0, _ => none
  | k + 1, l => if (roundT S l).2 then roundsT S k (roundT S l).1 else some (roundT S l).1
def init (n : Nat) (low : Int) : List Int := (List.replicate (n + 1) NONE).set low.toNat 0
def fromS (n : Nat) (E : List Ord3) (low : Int) : Option (List Int) := roundsT (steps n E) (n + 2) (init n low)

theorem relax_length (l : List Int) (s : Ord3) : (relax l s).length = l.length := by unfold relax; split <;> simp
theorem relaxT_length (x : List Int × Bool) (s : Ord3) : (relaxT x s).1.length = x.1.length := relax_length _ _
theorem fold_length (S : List Ord3) : ∀ x : List Int × Bool, (S.foldl relaxT x).1.length = x.1.length := by
  induction S with
  | nil => intro x; rfl
  | cons s r ih => intro x; rw [List.foldl_cons, ih, relaxT_length]
theorem mem_steps {n : Nat} {E : List Ord3} {s : Ord3} : s ∈ steps n E ↔ (s.1 = 0 ∧ s.2.1 = 0 ∧ 0 ≤ s.2.2 ∧ s.2.2 ≤ n) ∨ s ∈ E := by
  unfold steps zeros
  rw [List.mem_append, List.mem_map]
  obtain ⟨a, b, c⟩ := s
  constructor
  · rintro (⟨v, hv, h⟩ | h)
    · rw [List.mem_range] at hv
      simp only [Prod.mk.injEq] at h
      exact Or.inl (by simp only; omega)
    · exact Or.inr h
  · rintro (⟨h1, h2, h3, h4⟩ | h)
    · simp only at h1 h2 h3 h4
      refine Or.inl ⟨c.toNat, List.mem_range.2 (by omega), ?_⟩
      simp only [Prod.mk.injEq]
      omega
    · exact Or.inr h
theorem step_of_mem {n : Nat} {E : List Ord3} {s : Ord3} (h : s ∈ steps n E) : Step n E s.1 s.2.2 s.2.1 := by
  rcases mem_steps.1 h with ⟨h1, h2, h3, h4⟩ | h
  · exact Or.inl ⟨h1, h3, h4, h2⟩
  · exact Or.inr h
theorem mem_of_step {n : Nat} {E : List Ord3} {u v a : Int} (h : Step n E u v a) : (u, a, v) ∈ steps n E := by
  rcases h with ⟨h1, h2, h3, h4⟩ | h
  · exact mem_steps.2 (Or.inl ⟨h1, h4, h2, h3⟩)
  · exact mem_steps.2 (Or.inr h)

theorem at0_set {l : List Int} {v : Int} (y : Int) {x : Int} (hv : 0 ≤ v) (hv2 : v < l.length) (hx : 0 ≤ x) : at0 (l.set v.toNat y) x = if x = v then y else at0 l x := by
  unfold at0
  by_cases h : x = v
  · subst h
    rw [if_pos rfl]
    simp only [List.getD_eq_getElem?_getD]
    rw [List.getElem?_set_self (by omega)]
    rfl
  · rw [if_neg h]
    simp only [List.getD_eq_getElem?_getD]
    rw [List.getElem?_set_ne (by omega)]

theorem relax_at {l : List Int} {s : Ord3} (hv : 0 ≤ s.2.2) (hv2 : s.2.2 < l.length) {x : Int} (hx : 0 ≤ x) : at0 (relax l s) x = if fires l s = true ∧ x = s.2.2 then at0 l s.1 + s.2.1 else at0 l x := by
  unfold relax
  by_cases h : fires l s = true
  · rw [if_pos h, at0_set _ hv hv2 hx]
    by_cases h2 : x = s.2.2
    · rw [if_pos h2, if_pos ⟨h, h2⟩]
    · rw [if_neg h2, if_neg (fun h3 => h2 h3.2)]
  · rw [if_neg h, if_neg (fun h3 => h h3.1)]
theorem fires_iff {l : List Int} {s : Ord3} : fires l s = true ↔ at0 l s.1 ≠ NONE ∧ at0 l s.2.2 < at0 l s.1 + s.2.1 := by simp [fires]
theorem relax_mono {l : List Int} {s : Ord3} (hv : 0 ≤ s.2.2) (hv2 : s.2.2 < l.length) {x : Int} (hx : 0 ≤ x) : at0 l x ≤ at0 (relax l s) x := by
  rw [relax_at hv hv2 hx]
  split
  · rename_i h
    obtain ⟨h1, rfl⟩ := h
    have := (fires_iff.1 h1).2
    omega
  · omega

/-- What holds while values are raised: each value is a way's, and none is great. -/
structure Good (n : Nat) (E : List Ord3) (low : Int) (b : Int) (l : List Int) : Prop where
  len : l.length = n + 1
  way : ∀ v : Int, 0 ≤ v → v ≤ n → at0 l v ≠ NONE → Walk n E low v (at0 l v) ∧ -b ≤ at0 l v ∧ at0 l v ≤ b

theorem Good.relax {n : Nat} {E : List Ord3} {low b : Int} {l : List Int} (hE : RightE n E) (h : Good n E low b l) {s : Ord3} (hs : s ∈ steps n E) : Good n E low (b + 1000) (relax l s) := by
  have h1 := step_of_mem hs
  have h2 := h1.ends hE
  have hl := h.len
  refine ⟨by rw [relax_length]; exact h.len, fun v hv0 hv1 hn => ?_⟩
  rw [relax_at h2.2.1.1 (by omega) hv0] at hn ⊢
  by_cases h3 : fires l s = true ∧ v = s.2.2
  · rw [if_pos h3]
    obtain ⟨h4, rfl⟩ := h3
    obtain ⟨w1, w2, w3⟩ := h.way s.1 h2.1.1 h2.1.2 (fires_iff.1 h4).1
    exact ⟨w1.snoc h1, by omega, by omega⟩
  · rw [if_neg h3] at hn ⊢
    obtain ⟨w1, w2, w3⟩ := h.way v hv0 hv1 hn
    exact ⟨w1, by omega, by omega⟩
theorem Good.fold {n : Nat} {E : List Ord3} {low : Int} (hE : RightE n E) : ∀ (S : List Ord3) (b : Int) (x : List Int × Bool), (∀ s ∈ S, s ∈ steps n E) → Good n E low b x.1 → Good n E low (b + 1000 * S.length) (S.foldl relaxT x).1 := by
  intro S
  induction S with
  | nil => intro b x _ h; simpa using h
  | cons s r ih =>
    intro b x hS h
    have h1 := h.relax hE (hS s (by simp))
    have h2 := ih (b + 1000) (relaxT x s) (fun y hy => hS y (by simp [hy])) h1
    rw [List.foldl_cons, show b + 1000 * ((s :: r).length : Int) = b + 1000 + 1000 * (r.length : Int) by simp only [List.length_cons]; omega]
    exact h2
theorem init_at {n : Nat} {low : Int} (h0 : 0 ≤ low) (h1 : low ≤ n) {x : Int} (hx : 0 ≤ x) : at0 (init n low) x = if x = low then 0 else NONE := by
  unfold init
  rw [at0_set _ h0 (by simp; omega) hx]
  split
  · rfl
  · unfold at0
    rw [List.getD_eq_getElem?_getD]
    by_cases h : x.toNat < n + 1
    · rw [List.getElem?_eq_getElem (by simpa using h)]; simp
    · rw [List.getElem?_eq_none (by simp; omega)]; rfl
theorem init_good {n : Nat} (E : List Ord3) {low : Int} (h0 : 0 ≤ low) (h1 : low ≤ n) : Good n E low 0 (init n low) := by
  refine ⟨by simp [init], fun v hv0 hv1 hn => ?_⟩
  rw [init_at h0 h1 hv0] at hn ⊢
  by_cases h : v = low
  · rw [if_pos h]; subst h; exact ⟨Walk.nil v h0 h1, by omega, by omega⟩
  · rw [if_neg h] at hn; exact absurd rfl hn

/-- A round that turned nothing: no step is open. -/
theorem fold_still : ∀ (S : List Ord3) (x : List Int × Bool), (S.foldl relaxT x).2 = false → x.2 = false ∧ (S.foldl relaxT x).1 = x.1 ∧ ∀ s ∈ S, fires x.1 s = false := by
  intro S
  induction S with
  | nil => intro x h; exact ⟨h, rfl, by simp⟩
  | cons s r ih =>
    intro x h
    rw [List.foldl_cons] at h ⊢
    obtain ⟨h1, h2, h3⟩ := ih (relaxT x s) h
    unfold relaxT at h1
    simp only [Bool.or_eq_false_iff] at h1
    have e : (relaxT x s).1 = x.1 := by unfold relaxT relax; simp [h1.2]
    rw [e] at h2 h3
    exact ⟨h1.1, h2, fun t ht => by rcases List.mem_cons.1 ht with rfl | ht; exact h1.2; exact h3 t ht⟩

theorem fold_mono {n : Nat} {E : List Ord3} (hE : RightE n E) : ∀ (S : List Ord3) (x : List Int × Bool), (∀ s ∈ S, s ∈ steps n E) → x.1.length = n + 1 → ∀ v : Int, 0 ≤ v → at0 x.1 v ≤ at0 (S.foldl relaxT x).1 v := by
  intro S
  induction S with
  | nil => intro x _ _ v _; exact Int.le_refl _
  | cons s r ih =>
    intro x hS hl v hv
    have h2 := (step_of_mem (hS s (by simp))).ends hE
    rw [List.foldl_cons]
    have h3 := relax_mono (l := x.1) (s := s) h2.2.1.1 (by omega) hv
    have h4 := ih (relaxT x s) (fun y hy => hS y (by simp [hy])) (by rw [relaxT_length]; exact hl) v hv
    exact Int.le_trans h3 h4
/-- In a round each step is taken once. -/
theorem fold_takes {n : Nat} {E : List Ord3} (hE : RightE n E) : ∀ (S : List Ord3) (x : List Int × Bool), (∀ s ∈ S, s ∈ steps n E) → x.1.length = n + 1 → ∀ s ∈ S, at0 x.1 s.1 ≠ NONE → -200000000 ≤ at0 x.1 s.1 →
    at0 x.1 s.1 + s.2.1 ≤ at0 (S.foldl relaxT x).1 s.2.2 := by
  intro S
  induction S with
  | nil => intro x _ _ s hs; simp at hs
  | cons t r ih =>
    intro x hS hl s hs hn hb
    have ht := (step_of_mem (hS t (by simp))).ends hE
    have hss := (step_of_mem (hS s hs)).ends hE
    have hl' : (relaxT x t).1.length = n + 1 := by rw [relaxT_length]; exact hl
    have hS' : ∀ y ∈ r, y ∈ steps n E := fun y hy => hS y (by simp [hy])
    have hm := relax_mono (l := x.1) (s := t) ht.2.1.1 (by omega) hss.1.1
    rw [List.foldl_cons]
    by_cases e : s = t
    · subst e
      have h1 := fold_mono hE r (relaxT x s) hS' hl' s.2.2 hss.2.1.1
      have h2 : at0 x.1 s.1 + s.2.1 ≤ at0 (relaxT x s).1 s.2.2 := by
        show _ ≤ at0 (relax x.1 s) s.2.2
        rw [relax_at ht.2.1.1 (by omega) hss.2.1.1]
        by_cases hf : fires x.1 s = true
        · rw [if_pos ⟨hf, rfl⟩]; omega
        · rw [if_neg (fun h => hf h.1)]
          rw [fires_iff] at hf
          omega
      omega
    · have hmem : s ∈ r := by
        rcases List.mem_cons.1 hs with h | h
        · exact absurd h e
        · exact h
      have hb2 : -200000000 ≤ at0 (relaxT x t).1 s.1 := Int.le_trans hb hm
      have h3 := ih (relaxT x t) hS' hl' s hmem (by unfold NONE at *; omega) hb2
      have hm' : at0 x.1 s.1 ≤ at0 (relaxT x t).1 s.1 := hm
      omega

/-- Values that no step raises are the greatest ways. -/
structure Fix (n : Nat) (E : List Ord3) (low : Int) (l : List Int) : Prop where
  len : l.length = n + 1
  start : at0 l low ≠ NONE ∧ 0 ≤ at0 l low
  way : ∀ v : Int, 0 ≤ v → v ≤ n → at0 l v ≠ NONE → Walk n E low v (at0 l v) ∧ -200000000 ≤ at0 l v ∧ at0 l v ≤ 200000000
  step : ∀ u v a, Step n E u v a → at0 l u ≠ NONE → at0 l v ≠ NONE ∧ at0 l u + a ≤ at0 l v
theorem Fix.full {n : Nat} {E : List Ord3} {low : Int} {l : List Int} (h : Fix n E low l) {u v c : Int} (hu : at0 l u ≠ NONE) (hw : Walk n E u v c) : at0 l v ≠ NONE ∧ at0 l u + c ≤ at0 l v := by
  induction hw with
  | nil _ _ => exact ⟨hu, by omega⟩
  | snoc _ hs ih =>
    have := h.step _ _ _ hs ih.1
    exact ⟨this.1, by omega⟩
theorem Fix.no_cycle {n : Nat} {E : List Ord3} {low : Int} {l : List Int} (h : Fix n E low l) {c : Int} (hw : Walk n E low low c) : c ≤ 0 := by
  have := (h.full h.start.1 hw).2
  omega
theorem Fix.dist {n : Nat} {E : List Ord3} {low : Int} {l : List Int} {d : Dist} (h : Fix n E low l) (hd : IsDist n E d) (hE : RightE n E) {v : Int} (h0 : 0 ≤ v) (h1 : v ≤ n) :
    (at0 l v = NONE ∧ d low v = none) ∨ (at0 l v ≠ NONE ∧ d low v = some (at0 l v)) := by
  by_cases hv : at0 l v = NONE
  · refine Or.inl ⟨hv, ?_⟩
    cases hc : d low v with
    | none => rfl
    | some c => exact absurd hv (h.full h.start.1 (hd.sound _ _ _ hc)).1
  · refine Or.inr ⟨hv, ?_⟩
    obtain ⟨c', h2, h3⟩ := hd.full (h.way v h0 h1 hv).1
    rw [h2]
    have hl0 : at0 l low ≤ 0 := by
      by_cases hr : 0 ≤ low ∧ low ≤ n
      · exact hd.no_cycle hE (h.way low hr.1 hr.2 h.start.1).1
      · have := ((h.way v h0 h1 hv).1.ends hE).1; omega
    have h4 := (h.full h.start.1 (hd.sound _ _ _ h2)).2
    have h5 := h.start.2
    congr 1
    omega

theorem good_big {n : Nat} {E : List Ord3} {low b : Int} {l : List Int} (h : Good n E low b l) (hb : b ≤ 200000000) {v : Int} (h0 : 0 ≤ v) (h1 : v ≤ n) (hn : at0 l v ≠ NONE) : -200000000 ≤ at0 l v ∧ at0 l v ≤ 200000000 := by
  have := (h.way v h0 h1 hn).2; omega

theorem rounds_some {n : Nat} {E : List Ord3} {low : Int} (hE : RightE n E) (h0 : 0 ≤ low) : ∀ (k : Nat) (b : Int) (l r : List Int), b + 1000 * (steps n E).length * k ≤ 200000000 → 0 ≤ b → Good n E low b l → at0 l low ≠ NONE → 0 ≤ at0 l low →
    roundsT (steps n E) k l = some r → Fix n E low r := by
  intro k
  induction k with
  | zero => intro b l r _ _ _ _ _ h; simp [roundsT] at h
  | succ k ih =>
    intro b l r hb hb0 hg hs1 hs2 h
    rw [roundsT] at h
    have hg' : Good n E low (b + 1000 * (steps n E).length) (roundT (steps n E) l).1 := Good.fold hE (steps n E) b (l, false) (fun s hs => hs) hg
    have hmul : 1000 * ((steps n E).length : Int) * ((k + 1 : Nat) : Int) = 1000 * ((steps n E).length : Int) * (k : Int) + 1000 * ((steps n E).length : Int) := by
      rw [Int.natCast_add, Int.mul_add]; simp
    have hpos : 0 ≤ 1000 * ((steps n E).length : Int) * (k : Int) := Int.mul_nonneg (by omega) (by omega)
    have hlow' : at0 l low ≤ at0 (roundT (steps n E) l).1 low := fold_mono hE (steps n E) (l, false) (fun s hs => hs) hg.len low h0
    split at h
    · exact ih (b + 1000 * (steps n E).length) _ r (by omega) (by omega) hg' (by unfold NONE; omega) (by omega) h
    · rename_i ht
      have ht' : (roundT (steps n E) l).2 = false := by simpa using ht
      obtain ⟨_, e1, e2⟩ := fold_still (steps n E) (l, false) ht'
      simp only [Option.some.injEq] at h
      have e1' : (roundT (steps n E) l).1 = l := e1
      rw [e1'] at h
      subst h
      refine ⟨hg.len, ⟨hs1, hs2⟩, fun v hv0 hv1 hn => ⟨(hg.way v hv0 hv1 hn).1, good_big hg (by omega) hv0 hv1 hn⟩, fun u v a hst hn => ?_⟩
      have he := hst.ends hE
      have hf := e2 _ (mem_of_step hst)
      have hf' : ¬ (at0 l u ≠ NONE ∧ at0 l v < at0 l u + a) := fun hh => by
        have := fires_iff (l := l) (s := (u, a, v))
        rw [this.2 hh] at hf
        cases hf
      have hu := good_big hg (by omega) he.1.1 he.1.2 hn
      refine ⟨fun hv => hf' ⟨hn, ?_⟩, Int.not_lt.1 fun hv => hf' ⟨hn, hv⟩⟩
      rw [hv]; unfold NONE; omega

/-! ### It ends, where distances are. -/
/-- How many variables have their last value. -/
def done (d : Dist) (low : Int) (l : List Int) (k : Nat) : Nat := (List.range k).countP fun (v : Nat) => decide (d low v = some (at0 l v))
def todo (d : Dist) (low : Int) (k : Nat) : Nat := (List.range k).countP fun (v : Nat) => (d low v).isSome

theorem countP_le {α : Type} {p q : α → Bool} : ∀ l : List α, (∀ x ∈ l, p x = true → q x = true) → l.countP p ≤ l.countP q
  | [], _ => by simp
  | x :: r, h => by
    have := countP_le r (fun y hy => h y (by simp [hy]))
    rw [List.countP_cons, List.countP_cons]
    have hx := h x (by simp)
    by_cases h1 : p x = true
    · simp only [h1, hx h1, if_true]; omega
    · by_cases h2 : q x = true <;> simp only [h1, h2, if_true] <;> simp <;> omega
theorem countP_lt {α : Type} {p q : α → Bool} {x : α} : ∀ l : List α, (∀ x ∈ l, p x = true → q x = true) → x ∈ l → p x = false → q x = true → l.countP p < l.countP q
  | [], _, hx, _, _ => by simp at hx
  | y :: r, h, hx, h1, h2 => by
    have hr := countP_le r (fun z hz => h z (by simp [hz]))
    rw [List.countP_cons, List.countP_cons]
    by_cases e : x = y
    · subst e
      simp only [h1, h2, if_true]
      simp
      omega
    · have hm : x ∈ r := by
        rcases List.mem_cons.1 hx with h' | h'
        · exact absurd h' e
        · exact h'
      have := countP_lt r (fun z hz => h z (by simp [hz])) hm h1 h2
      have hy := h y (by simp)
      by_cases h3 : p y = true
      · simp only [h3, hy h3, if_true]; omega
      · by_cases h4 : q y = true <;> simp only [h3, h4, if_true] <;> simp <;> omega

/-- Of a way whose end is not done there is a step from what is done to what is not. -/
theorem frontier {n : Nat} {E : List Ord3} {d : Dist} {low : Int} {l : List Int} (hd : IsDist n E d) {v c : Int} (hs : d low low = some (at0 l low)) (hw : Walk n E low v c) (hc : d low v = some c) (hv : d low v ≠ some (at0 l v)) :
    ∃ u x a c', Step n E u x a ∧ d low u = some (at0 l u) ∧ d low x = some c' ∧ c' = at0 l u + a ∧ d low x ≠ some (at0 l x) := by
  induction hw with
  | nil _ _ => exact absurd hs hv
  | snoc hw1 hst ih =>
    rename_i j k c0 a
    obtain ⟨c1, h1, h2⟩ := hd.full hw1
    obtain ⟨c2, h3, h4⟩ := hd.full ((hd.sound _ _ _ h1).snoc hst)
    rw [hc] at h3
    cases h3
    have e : c1 = c0 := by omega
    subst e
    by_cases hj : d low j = some (at0 l j)
    · rw [h1] at hj
      simp only [Option.some.injEq] at hj
      exact ⟨j, k, a, _, hst, by rw [h1, hj], hc, by rw [hj], hv⟩
    · exact ih h1 hj

theorem fold_none : ∀ (S : List Ord3) (x : List Int × Bool), (∀ s ∈ S, fires x.1 s = false) → S.foldl relaxT x = x := by
  intro S
  induction S with
  | nil => intro x _; rfl
  | cons s r ih =>
    intro x h
    have e : relaxT x s = x := by unfold relaxT relax; simp [h s (by simp)]
    rw [List.foldl_cons, e]
    exact ih x (fun t ht => h t (by simp [ht]))

theorem round_more {n : Nat} {E : List Ord3} {d : Dist} {low b : Int} {l : List Int} (hE : RightE n E) (hd : IsDist n E d) (hB : BdD 200000000 d) (h0 : 0 ≤ low) (h1 : low ≤ n) (hg : Good n E low b l) (hs : d low low = some (at0 l low)) :
    (d low low = some (at0 (roundT (steps n E) l).1 low)) ∧ (done d low l (n + 1) < done d low (roundT (steps n E) l).1 (n + 1) ∨ (roundT (steps n E) l).2 = false) := by
  have hg' : Good n E low (b + 1000 * (steps n E).length) (roundT (steps n E) l).1 := Good.fold hE (steps n E) b (l, false) (fun s hs => hs) hg
  have hmono : ∀ v : Int, 0 ≤ v → at0 l v ≤ at0 (roundT (steps n E) l).1 v := fun v hv => fold_mono hE (steps n E) (l, false) (fun s hs => hs) hg.len v hv
  have hle : ∀ (l' : List Int) (b' : Int), Good n E low b' l' → ∀ v c : Int, 0 ≤ v → v ≤ n → d low v = some c → at0 l' v ≠ NONE → at0 l' v ≤ c := by
    intro l' b' hg' v c hv0 hv1 hc hn
    obtain ⟨c', h2, h3⟩ := hd.full (hg'.way v hv0 hv1 hn).1
    rw [hc] at h2; cases h2; exact h3
  have some_ne : ∀ v c : Int, d low v = some c → c ≠ NONE ∧ -200000000 ≤ c := by
    intro v c hc
    have := hB _ _ _ hc
    unfold NONE
    omega
  have keep : ∀ v : Int, 0 ≤ v → v ≤ n → d low v = some (at0 l v) → d low v = some (at0 (roundT (steps n E) l).1 v) := by
    intro v hv0 hv1 hc
    have h2 := hmono v hv0
    have hn2 := some_ne _ _ hc
    have h3 := hle _ _ hg' v _ hv0 hv1 hc (by unfold NONE; omega)
    have : at0 (roundT (steps n E) l).1 v = at0 l v := by omega
    rw [this]; exact hc
  refine ⟨keep low h0 h1 hs, ?_⟩
  by_cases hall : ∀ v c : Int, d low v = some c → c = at0 l v
  · refine Or.inr ?_
    have hnone : ∀ s ∈ steps n E, fires l s = false := by
      intro s hmem
      cases hf : fires l s
      · rfl
      · have hst := step_of_mem hmem
        have he := hst.ends hE
        obtain ⟨f1, f2⟩ := fires_iff.1 hf
        have hw := (hg.way s.1 he.1.1 he.1.2 f1).1.snoc hst
        obtain ⟨c', h2, h3⟩ := hd.full hw
        have := hall _ _ h2
        omega
    show (List.foldl relaxT (l, false) (steps n E)).2 = false
    rw [fold_none _ _ hnone]
  · refine Or.inl ?_
    have hex : ∃ v c : Int, d low v = some c ∧ c ≠ at0 l v := by
      refine Classical.byContradiction fun hno => hall fun v c hc => Classical.byContradiction fun hne => hno ⟨v, c, hc, hne⟩
    obtain ⟨v, c, hc, hne⟩ := hex
    obtain ⟨u, x, a, c', hst, hu, hx, e1, hxn⟩ := frontier hd hs (hd.sound _ _ _ hc) hc (by rw [hc]; simpa using hne)
    have he := hst.ends hE
    have hun := some_ne _ _ hu
    have ht := fold_takes hE (steps n E) (l, false) (fun s hs => hs) hg.len _ (mem_of_step hst) hun.1 hun.2
    have ht' : at0 l u + a ≤ at0 (roundT (steps n E) l).1 x := ht
    have hxb := some_ne _ _ hx
    have h3 := hle _ _ hg' x _ he.2.1.1 he.2.1.2 hx (by unfold NONE; omega)
    have e2 : at0 (roundT (steps n E) l).1 x = c' := by omega
    have hxx : ((x.toNat : Nat) : Int) = x := by omega
    refine countP_lt (x := x.toNat) _ (fun y hy hp => ?_) (List.mem_range.2 (by omega)) ?_ ?_
    · have := List.mem_range.1 hy
      rw [decide_eq_true_eq] at hp ⊢
      exact keep y (by omega) (by omega) hp
    · rw [hxx]; simpa using hxn
    · rw [hxx, e2]; simpa using hx

theorem done_le (d : Dist) (low : Int) (l : List Int) (k : Nat) : done d low l k ≤ k := by
  unfold done
  have := List.countP_le_length (p := fun (v : Nat) => decide (d low v = some (at0 l v))) (l := List.range k)
  simpa using this
theorem rounds_end {n : Nat} {E : List Ord3} {d : Dist} {low : Int} (hE : RightE n E) (hd : IsDist n E d) (hB : BdD 200000000 d) (h0 : 0 ≤ low) (h1 : low ≤ n) : ∀ (k : Nat) (b : Int) (l : List Int), b + 1000 * (steps n E).length * k ≤ 200000000 → 0 ≤ b → Good n E low b l →
    d low low = some (at0 l low) → n + 2 ≤ done d low l (n + 1) + k → roundsT (steps n E) k l ≠ none := by
  intro k
  induction k with
  | zero => intro b l _ _ _ _ h; have := done_le d low l (n + 1); omega
  | succ k ih =>
    intro b l hb hb0 hg hs hk
    have hmul : 1000 * ((steps n E).length : Int) * ((k + 1 : Nat) : Int) = 1000 * ((steps n E).length : Int) * (k : Int) + 1000 * ((steps n E).length : Int) := by
      rw [Int.natCast_add, Int.mul_add]; simp
    have hpos : 0 ≤ 1000 * ((steps n E).length : Int) * (k : Int) := Int.mul_nonneg (by omega) (by omega)
    have hg' : Good n E low (b + 1000 * (steps n E).length) (roundT (steps n E) l).1 := Good.fold hE (steps n E) b (l, false) (fun s hs => hs) hg
    obtain ⟨h2, h3⟩ := round_more hE hd hB h0 h1 hg hs
    rw [roundsT]
    split
    · rename_i ht
      rcases h3 with h3 | h3
      · exact ih (b + 1000 * (steps n E).length) _ (by omega) (by omega) hg' h2 (by omega)
      · rw [h3] at ht; cases ht
    · simp

theorem from_some {n : Nat} {E : List Ord3} {low : Int} (hE : RightE n E) (hn : n ≤ 16) (hl : E.length ≤ 64) (h0 : 0 ≤ low) (h1 : low ≤ n) {r : List Int} (h : fromS n E low = some r) : Fix n E low r := by
  have hS : (steps n E).length ≤ 81 := by simp [steps, zeros]; omega
  have e := init_at h0 h1 h0
  rw [if_pos rfl] at e
  refine rounds_some hE h0 (n + 2) 0 (init n low) r ?_ (by omega) (init_good E h0 h1) (by rw [e]; decide) (by omega) h
  have := Int.mul_le_mul (a := 1000 * ((steps n E).length : Int)) (c := 81000) (b := ((n + 2 : Nat) : Int)) (d := 18) (by omega) (by omega) (by omega) (by omega)
  omega
theorem from_ends {n : Nat} {E : List Ord3} {low : Int} {d : Dist} (hE : RightE n E) (hd : IsDist n E d) (hB : BdD 200000000 d) (hn : n ≤ 16) (hl : E.length ≤ 64) (h0 : 0 ≤ low) (h1 : low ≤ n) : fromS n E low ≠ none := by
  have hS : (steps n E).length ≤ 81 := by simp [steps, zeros]; omega
  have e := init_at h0 h1 h0
  rw [if_pos rfl] at e
  have hs : d low low = some (at0 (init n low) low) := by rw [e]; exact hd.diag low h0 h1
  refine rounds_end hE hd hB h0 h1 (n + 2) 0 (init n low) ?_ (by omega) (init_good E h0 h1) hs (by omega)
  have := Int.mul_le_mul (a := 1000 * ((steps n E).length : Int)) (c := 81000) (b := ((n + 2 : Nat) : Int)) (d := 18) (by omega) (by omega) (by omega) (by omega)
  omega
/-- A cycle that rises: from some variable on it never ends. -/
theorem from_cycle {n : Nat} {E : List Ord3} (hE : RightE n E) (hn : n ≤ 16) (hl : E.length ≤ 64) {i c : Int} (hw : Walk n E i i c) (hc : 0 < c) : fromS n E i = none := by
  cases h : fromS n E i with
  | none => rfl
  | some r =>
    have he := hw.ends hE
    have := (from_some hE hn hl he.1.1 he.1.2 h).no_cycle hw
    omega
end Go.Proofs.Ytdpannjnhhjicaa
