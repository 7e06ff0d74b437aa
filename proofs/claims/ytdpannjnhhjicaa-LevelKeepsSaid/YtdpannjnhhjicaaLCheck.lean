/- What both ways tell, told by values. -/
import Derived.Test.YtdpannjnhhjicaaLFrom
namespace Go.Proofs.Ytdpannjnhhjicaa
/-- What the document's check finds. -/
theorem check_iff {n : Nat} {E : List Ord3} (hE : RightE n E) (hn : n ≤ 16) (hl : E.length ≤ 64) :
    (∀ d, reckD n (toldD n E) (n + 1) = some d → IsDist n E d ∧ BdD 200000000 d ∧ ∀ low : Int, 0 ≤ low → low ≤ n → ∃ r, fromS n E low = some r ∧ Fix n E low r) ∧
    (reckD n (toldD n E) (n + 1) = none → ∃ low : Int, 0 ≤ low ∧ low ≤ n ∧ fromS n E low = none) := by
  refine ⟨fun d hd => ?_, fun h => ?_⟩
  · have hD := reck_some hE hd
    have hB : BdD 200000000 d := by
      refine ((reck_inv n E hE (n + 1) (Nat.le_refl _)).1 d hd).2.mono ?_
      have h1 : (2 : Int) ^ (n + 1) ≤ 2 ^ 17 := by
        have : (2 : Nat) ^ (n + 1) ≤ 2 ^ 17 := Nat.pow_le_pow_right (by omega) (by omega)
        exact_mod_cast this
      omega
    refine ⟨hD, hB, fun low h0 h1 => ?_⟩
    cases h : fromS n E low with
    | none => exact absurd h (from_ends hE hD hB hn hl h0 h1)
    | some r => exact ⟨r, rfl, from_some hE hn hl h0 h1 h⟩
  · obtain ⟨i, c, hw, hc⟩ := reck_none hE h
    have he := hw.ends hE
    exact ⟨i, he.1.1, he.1.2, from_cycle hE hn hl hw hc⟩
theorem no_cycle_some {n : Nat} {E : List Ord3} (hE : RightE n E) (h : ∀ i c, Walk n E i i c → c ≤ 0) : ∃ d, reckD n (toldD n E) (n + 1) = some d := by
  cases hr : reckD n (toldD n E) (n + 1) with
  | some d => exact ⟨d, rfl⟩
  | none =>
    obtain ⟨i, c, hw, hc⟩ := reck_none hE hr
    have := h i c hw
    omega

/-! ### values -/
def valOf (vals : List Int) (v : Int) : Int := if 1 ≤ v ∧ v ≤ vals.length then vals.getD (v - 1).toNat 0 else 0
theorem valOf_zero (vals : List Int) : valOf vals 0 = 0 := by simp [valOf]
def Meet (vals : List Int) (E : List Ord3) : Prop := (∀ x ∈ vals, 0 ≤ x) ∧ ∀ o ∈ E, valOf vals o.1 + o.2.1 ≤ valOf vals o.2.2
theorem valOf_nonneg {vals : List Int} (h : ∀ x ∈ vals, 0 ≤ x) (v : Int) : 0 ≤ valOf vals v := by
  unfold valOf
  split
  · rename_i h1
    rw [List.getD_eq_getElem?_getD, List.getElem?_eq_getElem (by omega)]
    exact h _ (List.getElem_mem _)
  · omega
theorem Meet.step {n : Nat} {E : List Ord3} {vals : List Int} (h : Meet vals E) {j k a : Int} (hs : Step n E j k a) : valOf vals j + a ≤ valOf vals k := by
  rcases hs with ⟨rfl, _, _, rfl⟩ | hs
  · rw [valOf_zero]; have := valOf_nonneg h.1 k; omega
  · exact h.2 _ hs
theorem Meet.walk {n : Nat} {E : List Ord3} {vals : List Int} (h : Meet vals E) {j k a : Int} (hw : Walk n E j k a) : valOf vals j + a ≤ valOf vals k := by
  induction hw with
  | nil _ _ => omega
  | snoc _ hs ih => have := h.step hs; omega

/-- The least values. -/
def leastD (n : Nat) (d : Dist) : List Int := (List.range n).map fun (i : Nat) => (d 0 (i + 1)).getD 0
theorem leastD_length (n : Nat) (d : Dist) : (leastD n d).length = n := by simp [leastD]
theorem leastD_get (n : Nat) (d : Dist) (i : Nat) (h : i < n) : (leastD n d)[i]'(by rw [leastD_length]; exact h) = (d 0 (i + 1)).getD 0 := by simp [leastD]
theorem leastD_val {n : Nat} {E : List Ord3} {d : Dist} (hd : IsDist n E d) {v : Int} (h0 : 0 ≤ v) (h1 : v ≤ n) : d 0 v = some (valOf (leastD n d) v) := by
  by_cases h : v = 0
  · subst h; rw [valOf_zero]; exact hd.diag 0 (by omega) (by omega)
  · obtain ⟨c, h2, _⟩ := hd.step 0 v 0 (Or.inl ⟨rfl, h0, h1, rfl⟩)
    unfold valOf
    rw [leastD_length, if_pos (by omega), List.getD_eq_getElem?_getD, List.getElem?_eq_getElem (by rw [leastD_length]; omega), Option.getD_some, leastD_get _ _ _ (by omega)]
    rw [show (((v - 1).toNat : Nat) : Int) + 1 = v by omega, h2]
    rfl
theorem leastD_nonneg {n : Nat} {E : List Ord3} {d : Dist} (hd : IsDist n E d) : ∀ x ∈ leastD n d, 0 ≤ x := by
  intro x hx
  obtain ⟨i, hi, rfl⟩ := List.mem_map.1 hx
  rw [List.mem_range] at hi
  obtain ⟨c, h2, h3⟩ := hd.step 0 ((i : Int) + 1) 0 (Or.inl ⟨rfl, by omega, by omega, rfl⟩)
  rw [h2]
  exact h3
theorem leastD_meets {n : Nat} {E : List Ord3} {d : Dist} (hE : RightE n E) (hd : IsDist n E d) : Meet (leastD n d) E := by
  refine ⟨leastD_nonneg hd, fun o ho => ?_⟩
  obtain ⟨h1, h2, _⟩ := hE o ho
  have e1 := leastD_val hd h1.1 h1.2
  have e2 := leastD_val hd h2.1 h2.2
  obtain ⟨c, h3, h4⟩ := hd.step o.1 o.2.2 o.2.1 (Or.inr ho)
  obtain ⟨c', h5, h6⟩ := hd.tri _ _ _ _ _ e1 h3
  rw [e2] at h5
  cases h5
  omega
theorem leastD_least {n : Nat} {E : List Ord3} {d : Dist} {vals : List Int} (hd : IsDist n E d) (h : Meet vals E) {v : Int} (h0 : 0 ≤ v) (h1 : v ≤ n) : valOf (leastD n d) v ≤ valOf vals v := by
  have := h.walk (hd.sound _ _ _ (leastD_val hd h0 h1))
  rw [valOf_zero] at this
  omega
/-- One order more, that goes back by what the gap is. -/
theorem tight {n : Nat} {E : List Ord3} {d : Dist} (hE : RightE n E) (hd : IsDist n E d) {lo hi g : Int} (hg : d lo hi = some g ∨ d lo hi = none) (hlo : 0 ≤ lo ∧ lo ≤ n) (hhi : 0 ≤ hi ∧ hi ≤ n) {y : Int} (hy : ∀ g, d lo hi = some g → y = -g) {i c : Int}
    (hw : Walk n (E ++ [(hi, y, lo)]) i i c) : c ≤ 0 := by
  have key : ∀ {i j c : Int}, Walk n (E ++ [(hi, y, lo)]) i j c → (∃ c', d i j = some c' ∧ c ≤ c') ∨ ∃ a b, d i hi = some a ∧ d lo j = some b ∧ c ≤ a + y + b := by
    intro i j c hw
    induction hw with
    | nil h1 h2 => exact Or.inl ⟨0, hd.diag _ h1 h2, by omega⟩
    | snoc hw1 hst ih =>
      rename_i j k c a
      have hst' : Step n E j k a ∨ (j = hi ∧ a = y ∧ k = lo) := by
        rcases hst with h | h
        · exact Or.inl (Or.inl h)
        · rcases List.mem_append.1 h with h | h
          · exact Or.inl (Or.inr h)
          · simp only [List.mem_singleton, Prod.mk.injEq] at h; exact Or.inr h
      rcases hst' with hst' | ⟨rfl, rfl, rfl⟩
      · obtain ⟨e, h1, h2⟩ := hd.step _ _ _ hst'
        rcases ih with ⟨c', h3, h4⟩ | ⟨u, b, h3, h4, h5⟩
        · obtain ⟨c2, h6, h7⟩ := hd.tri _ _ _ _ _ h3 h1
          exact Or.inl ⟨c2, h6, by omega⟩
        · obtain ⟨c2, h6, h7⟩ := hd.tri _ _ _ _ _ h4 h1
          exact Or.inr ⟨u, c2, h3, h6, by omega⟩
      · have hz := hd.diag k hlo.1 hlo.2
        rcases ih with ⟨c', h3, h4⟩ | ⟨u, b, h3, h4, h5⟩
        · exact Or.inr ⟨c', 0, h3, hz, by omega⟩
        · have hyb := hy b h4
          exact Or.inr ⟨u, 0, h3, hz, by omega⟩
  rcases key hw with ⟨c', h1, h2⟩ | ⟨a, b, h1, h2, h3⟩
  · have := hd.no_cycle hE (hd.sound _ _ _ h1)
    omega
  · obtain ⟨g, h4, h5⟩ := hd.tri _ _ _ _ _ h2 h1
    have := hy g h4
    omega
end Go.Proofs.Ytdpannjnhhjicaa
