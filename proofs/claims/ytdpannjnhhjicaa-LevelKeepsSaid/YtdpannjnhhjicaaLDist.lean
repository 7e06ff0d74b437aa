/- Distances between variables: walks along orders, and the rounds that find the greatest of them. -/
import Derived.Test.YtdpannjnhhjicaaRows
namespace Go.Proofs.Ytdpannjnhhjicaa

abbrev Ord3 := Int × Int × Int
abbrev Dist := Int → Int → Option Int

/-- From j one gets to k in one step, for a more: by an order, or because 0 is below all. -/
def Step (n : Nat) (E : List Ord3) (j k a : Int) : Prop := (j = 0 ∧ 0 ≤ k ∧ k ≤ n ∧ a = 0) ∨ (j, a, k) ∈ E
inductive Walk (n : Nat) (E : List Ord3) : Int → Int → Int → Prop
  | nil (i : Int) : 0 ≤ i → i ≤ n → Walk n E i i 0
  | snoc {i j k c a : Int} : Walk n E i j c → Step n E j k a → Walk n E i k (c + a)
def RightO (n : Nat) (o : Ord3) : Prop := (0 ≤ o.1 ∧ o.1 ≤ n) ∧ (0 ≤ o.2.2 ∧ o.2.2 ≤ n) ∧ (-1000 ≤ o.2.1 ∧ o.2.1 ≤ 1000)
def RightE (n : Nat) (E : List Ord3) : Prop := ∀ o ∈ E, RightO n o

theorem Step.ends {n : Nat} {E : List Ord3} (hE : RightE n E) {j k a : Int} (h : Step n E j k a) : (0 ≤ j ∧ j ≤ n) ∧ (0 ≤ k ∧ k ≤ n) ∧ -1000 ≤ a ∧ a ≤ 1000 := by
  rcases h with ⟨rfl, h1, h2, rfl⟩ | h
  · omega
  · have := hE _ h; unfold RightO at this; simp only at this; omega
theorem Walk.ends {n : Nat} {E : List Ord3} (hE : RightE n E) {i j c : Int} (h : Walk n E i j c) : (0 ≤ i ∧ i ≤ n) ∧ (0 ≤ j ∧ j ≤ n) := by
  induction h with
  | nil h1 h2 => omega
  | snoc _ hs ih => have := hs.ends hE; omega
theorem Walk.trans {n : Nat} {E : List Ord3} {i j k c a : Int} (h : Walk n E i j c) (h' : Walk n E j k a) : Walk n E i k (c + a) := by
  induction h' with
  | nil _ _ => simpa using h
  | snoc _ hs ih => rw [← Int.add_assoc]; exact ih.snoc hs
theorem Step.walk {n : Nat} {E : List Ord3} (hE : RightE n E) {j k a : Int} (h : Step n E j k a) : Walk n E j k a := by
  have he := h.ends hE
  have := (Walk.nil (E := E) j he.1.1 he.1.2).snoc h
  simpa using this

/-- What a pair holds when so much is said of it. -/
def comb (x : Option Int) (y : Int) : Option Int := match x with | none => some y | some k => if k < y then some y else some k
def raiseD (d : Dist) (i j y : Int) : Dist := fun a b => if a = i ∧ b = j then comb (d i j) y else d a b
theorem comb_ge (x : Option Int) (y : Int) : ∃ c, comb x y = some c ∧ y ≤ c ∧ (∀ k, x = some k → k ≤ c) ∧ (c = y ∨ x = some c) := by
  unfold comb
  cases x with
  | none => exact ⟨y, rfl, by omega, (fun k h => by simp at h), Or.inl rfl⟩
  | some k =>
    by_cases h : k < y
    · exact ⟨y, by simp [h], by omega, (fun k' h' => by simp at h'; omega), Or.inl rfl⟩
    · exact ⟨k, by simp [h], by omega, (fun k' h' => by simp at h'; omega), Or.inr rfl⟩
theorem raiseD_self (d : Dist) (i j y : Int) : raiseD d i j y i j = comb (d i j) y := by simp [raiseD]
theorem raiseD_other (d : Dist) {i j a b : Int} (y : Int) (h : ¬ (a = i ∧ b = j)) : raiseD d i j y a b = d a b := by simp [raiseD, h]
theorem comb_some_of {x : Option Int} {k : Int} (h : x = some k) (y : Int) : ∃ c, comb x y = some c ∧ k ≤ c := by
  obtain ⟨c, h1, _, h3, _⟩ := comb_ge x y
  exact ⟨c, h1, h3 k h⟩
theorem raiseD_mono {d : Dist} {a b k : Int} (h : d a b = some k) (i j y : Int) : ∃ c, raiseD d i j y a b = some c ∧ k ≤ c := by
  by_cases e : a = i ∧ b = j
  · obtain ⟨rfl, rfl⟩ := e; rw [raiseD_self]; exact comb_some_of h y
  · rw [raiseD_other _ _ e]; exact ⟨k, h, by omega⟩

def thrHigh (mid low first : Int) (d : Dist) : Nat → Dist
  | 0 => d
  | k + 1 => match (thrHigh mid low first d k) mid k with
    | none => thrHigh mid low first d k
    | some s => raiseD (thrHigh mid low first d k) low k (first + s)
def thrLow (mid : Int) (n : Nat) (d : Dist) : Nat → Dist
  | 0 => d
  | k + 1 => match (thrLow mid n d k) k mid with
    | none => thrLow mid n d k
    | some f => thrHigh mid k f (thrLow mid n d k) (n + 1)
def thr (mid : Int) (n : Nat) (d : Dist) : Dist := thrLow mid n d (n + 1)
def reckD (n : Nat) (d : Dist) : Nat → Option Dist
  | 0 => some d
  | k + 1 => match reckD n d k with
    | none => none
    | some d' => if 0 < (d' k k).getD 0 then none else some (thr k n d')
def toldV (d : Dist) : Nat → Dist
  | 0 => d
  | k + 1 => raiseD (raiseD (toldV d k) 0 k 0) k k 0
def toldO (d : Dist) (E : List Ord3) : Dist := E.foldl (fun d o => raiseD d o.1 o.2.2 o.2.1) d
def toldD (n : Nat) (E : List Ord3) : Dist := toldO (toldV (fun _ _ => none) (n + 1)) E

theorem thrHigh_eq (mid low first : Int) (d : Dist) (k : Nat) (i j : Int) :
    thrHigh mid low first d k i j = if i = low ∧ 0 ≤ j ∧ j < k then (match d mid j with | none => d i j | some s => comb (d i j) (first + s)) else d i j := by
  induction k generalizing i j with
  | zero => simp only [thrHigh]; rw [if_neg (by omega)]
  | succ k ih =>
    have e : thrHigh mid low first d k mid k = d mid k := by rw [ih, if_neg (by omega)]
    simp only [thrHigh, e]
    by_cases h : i = low ∧ j = k
    · obtain ⟨rfl, rfl⟩ := h
      rw [if_pos (by omega)]
      cases hm : d mid k with
      | none => simp only; rw [ih, if_neg (by omega)]
      | some s => simp only; rw [raiseD_self, ih, if_neg (by omega)]
    · have e2 : (if i = low ∧ 0 ≤ j ∧ j < ((k + 1 : Nat) : Int) then (match d mid j with | none => d i j | some s => comb (d i j) (first + s)) else d i j) = thrHigh mid low first d k i j := by
        rw [ih]
        by_cases h2 : i = low ∧ 0 ≤ j ∧ j < (k : Int)
        · rw [if_pos h2, if_pos (by omega)]
        · rw [if_neg h2, if_neg (by omega)]
      rw [e2]
      cases hm : d mid k with
      | none => rfl
      | some s => simp only; rw [raiseD_other _ _ h]

theorem comb_self {x : Option Int} {b : Int} (h : x = some b) : comb x (0 + b) = x := by subst h; simp [comb]

theorem thrLow_eq (mid : Int) (n : Nat) (d : Dist) (h0 : d mid mid = some 0) (k : Nat) (i j : Int) :
    thrLow mid n d k i j = if (0 ≤ i ∧ i < k) ∧ 0 ≤ j ∧ j ≤ n then (match d i mid, d mid j with | some a, some b => comb (d i j) (a + b) | _, _ => d i j) else d i j := by
  induction k generalizing i j with
  | zero => simp only [thrLow]; rw [if_neg (by omega)]
  | succ k ih =>
    have e : thrLow mid n d k k mid = d k mid := by rw [ih, if_neg (by omega)]
    have er : ∀ j, thrLow mid n d k mid j = d mid j := by
      intro j
      rw [ih]
      split
      · rw [h0]; cases h : d mid j with
        | none => rfl
        | some b => exact comb_self rfl
      · rfl
    simp only [thrLow, e]
    cases hk : d k mid with
    | none =>
      simp only
      rw [ih]
      by_cases h1 : (0 ≤ i ∧ i < (k : Int)) ∧ 0 ≤ j ∧ j ≤ (n : Int)
      · rw [if_pos h1, if_pos (by omega)]
      · rw [if_neg h1]
        split
        · have : i = k := by omega
          subst this; rw [hk]
        · rfl
    | some f =>
      simp only
      rw [thrHigh_eq, er]
      by_cases hi : i = k
      · subst hi
        have e3 : thrLow mid n d k k j = d k j := by rw [ih, if_neg (by omega)]
        rw [e3]
        by_cases hj : 0 ≤ j ∧ j ≤ (n : Int)
        · rw [if_pos ⟨rfl, by omega⟩, if_pos (by omega), hk]
          cases d mid j <;> rfl
        · rw [if_neg (fun h => hj ⟨h.2.1, by omega⟩), if_neg (fun h => hj h.2)]
      · rw [if_neg (by omega), ih]
        by_cases h1 : (0 ≤ i ∧ i < (k : Int)) ∧ 0 ≤ j ∧ j ≤ (n : Int)
        · rw [if_pos h1, if_pos (by omega)]
        · rw [if_neg h1, if_neg (by omega)]

theorem thr_none {mid : Int} {n : Nat} {d : Dist} (h0 : d mid mid = some 0) {i j : Int} (h : (0 ≤ i ∧ i ≤ n) ∧ 0 ≤ j ∧ j ≤ n) (h1 : d i mid = none ∨ d mid j = none) : thr mid n d i j = d i j := by
  unfold thr
  rw [thrLow_eq mid n d h0, if_pos (by omega)]
  rcases h1 with h1 | h1 <;> rw [h1]
  cases d i mid <;> rfl
theorem thr_some {mid : Int} {n : Nat} {d : Dist} (h0 : d mid mid = some 0) {i j a b : Int} (h : (0 ≤ i ∧ i ≤ n) ∧ 0 ≤ j ∧ j ≤ n) (h1 : d i mid = some a) (h2 : d mid j = some b) : thr mid n d i j = comb (d i j) (a + b) := by
  unfold thr
  rw [thrLow_eq mid n d h0, if_pos (by omega), h1, h2]
theorem thr_out {mid : Int} {n : Nat} {d : Dist} (h0 : d mid mid = some 0) {i j : Int} (h : ¬ ((0 ≤ i ∧ i ≤ n) ∧ 0 ≤ j ∧ j ≤ n)) : thr mid n d i j = d i j := by
  unfold thr
  rw [thrLow_eq mid n d h0, if_neg (by omega)]

/-- What stands in thr: what stood there, or a way through mid. -/
theorem thr_inv {mid : Int} {n : Nat} {d : Dist} (h0 : d mid mid = some 0) {i j c : Int} (h : thr mid n d i j = some c) : d i j = some c ∨ ∃ a b, d i mid = some a ∧ d mid j = some b ∧ c = a + b := by
  by_cases hin : (0 ≤ i ∧ i ≤ (n : Int)) ∧ 0 ≤ j ∧ j ≤ (n : Int)
  · cases h1 : d i mid with
    | none => rw [thr_none h0 hin (Or.inl h1)] at h; exact Or.inl h
    | some a =>
      cases h2 : d mid j with
      | none => rw [thr_none h0 hin (Or.inr h2)] at h; exact Or.inl h
      | some b =>
        rw [thr_some h0 hin h1 h2] at h
        obtain ⟨c', e1, _, _, e4⟩ := comb_ge (d i j) (a + b)
        rw [e1] at h
        cases h
        rcases e4 with e | e
        · exact Or.inr ⟨a, b, rfl, rfl, e⟩
        · exact Or.inl e
  · rw [thr_out h0 hin] at h; exact Or.inl h
theorem thr_mono {mid : Int} {n : Nat} {d : Dist} (h0 : d mid mid = some 0) {i j c : Int} (h : d i j = some c) : ∃ c', thr mid n d i j = some c' ∧ c ≤ c' := by
  by_cases hin : (0 ≤ i ∧ i ≤ (n : Int)) ∧ 0 ≤ j ∧ j ≤ (n : Int)
  · cases h1 : d i mid with
    | none => rw [thr_none h0 hin (Or.inl h1)]; exact ⟨c, h, by omega⟩
    | some a =>
      cases h2 : d mid j with
      | none => rw [thr_none h0 hin (Or.inr h2)]; exact ⟨c, h, by omega⟩
      | some b => rw [thr_some h0 hin h1 h2]; exact comb_some_of h _
  · rw [thr_out h0 hin]; exact ⟨c, h, by omega⟩

structure Inv (n : Nat) (E : List Ord3) (d : Dist) (k : Nat) : Prop where
  sound : ∀ i j c, d i j = some c → Walk n E i j c
  step : ∀ i j a, Step n E i j a → ∃ c, d i j = some c ∧ a ≤ c
  self : ∀ i : Int, 0 ≤ i → i ≤ n → ∃ c, d i i = some c ∧ 0 ≤ c
  diag : ∀ i : Int, 0 ≤ i → i < k → d i i = some 0
  tri : ∀ m i j a b : Int, 0 ≤ m → m < k → d i m = some a → d m j = some b → ∃ c, d i j = some c ∧ a + b ≤ c

theorem Inv.next {n : Nat} {E : List Ord3} {d : Dist} {k : Nat} (hE : RightE n E) (h : Inv n E d k) (hk : k ≤ n) (hc : ¬ 0 < (d k k).getD 0) : Inv n E (thr k n d) (k + 1) := by
  have h0 : d k k = some 0 := by
    obtain ⟨c, h1, h2⟩ := h.self k (by omega) (by omega)
    rw [h1] at hc ⊢
    simp only [Option.getD_some] at hc
    have : c = 0 := by omega
    rw [this]
  have hin : ∀ {i j c : Int}, d i j = some c → (0 ≤ i ∧ i ≤ (n : Int)) ∧ 0 ≤ j ∧ j ≤ (n : Int) := fun h' => (h.sound _ _ _ h').ends hE
  -- a way through k is in thr
  have via : ∀ {i j a b : Int}, d i k = some a → d k j = some b → ∃ c, thr k n d i j = some c ∧ a + b ≤ c := by
    intro i j a b h1 h2
    have hi := (hin h1).1
    have hj := (hin h2).2
    rw [thr_some h0 ⟨hi, hj⟩ h1 h2]
    obtain ⟨c, e1, e2, _⟩ := comb_ge (d i j) (a + b)
    exact ⟨c, e1, e2⟩
  have old : ∀ {i j c : Int}, d i j = some c → ∃ c', thr k n d i j = some c' ∧ c ≤ c' := fun h' => thr_mono h0 h'
  refine ⟨?_, ?_, ?_, ?_, ?_⟩
  · intro i j c hc
    rcases thr_inv h0 hc with h1 | ⟨a, b, h1, h2, rfl⟩
    · exact h.sound _ _ _ h1
    · exact (h.sound _ _ _ h1).trans (h.sound _ _ _ h2)
  · intro i j a hs
    obtain ⟨c, h1, h2⟩ := h.step i j a hs
    obtain ⟨c', h3, h4⟩ := old h1
    exact ⟨c', h3, by omega⟩
  · intro i h1 h2
    obtain ⟨c, h3, h4⟩ := h.self i h1 h2
    obtain ⟨c', h5, h6⟩ := old h3
    exact ⟨c', h5, by omega⟩
  · intro i h1 h2
    by_cases hi : i = k
    · subst hi
      rw [thr_some h0 ⟨⟨h1, by omega⟩, h1, by omega⟩ h0 h0, h0]
      rfl
    · have hd := h.diag i h1 (by omega)
      obtain ⟨c', h5, h6⟩ := old hd
      rw [h5]
      rcases thr_inv h0 h5 with h7 | ⟨a, b, h7, h8, rfl⟩
      · rw [hd] at h7; exact h7.symm
      · obtain ⟨c, h9, h10⟩ := h.tri i k k b a h1 (by omega) h8 h7
        rw [h0] at h9
        cases h9
        have : a + b = 0 := by omega
        rw [this]
  · intro m i j a b h1 h2 ha hb
    by_cases hm : m = k
    · subst hm
      have ha' : d i k = some a := by
        rcases thr_inv h0 ha with h7 | ⟨x, y, h7, h8, rfl⟩
        · exact h7
        · rw [h0] at h8; cases h8; simpa using h7
      have hb' : d k j = some b := by
        rcases thr_inv h0 hb with h7 | ⟨x, y, h7, h8, rfl⟩
        · exact h7
        · rw [h0] at h7; cases h7; simpa using h8
      exact via ha' hb'
    · have hmk : m < k := by omega
      rcases thr_inv h0 ha with h3 | ⟨x, y, h3, h4, rfl⟩
      · rcases thr_inv h0 hb with h5 | ⟨u, v, h5, h6, rfl⟩
        · obtain ⟨c, h7, h8⟩ := h.tri m i j a b h1 hmk h3 h5
          obtain ⟨c', h9, h10⟩ := old h7
          exact ⟨c', h9, by omega⟩
        · obtain ⟨c, h7, h8⟩ := h.tri m i k a u h1 hmk h3 h5
          obtain ⟨c', h9, h10⟩ := via h7 h6
          exact ⟨c', h9, by omega⟩
      · rcases thr_inv h0 hb with h5 | ⟨u, v, h5, h6, rfl⟩
        · obtain ⟨c, h7, h8⟩ := h.tri m k j y b h1 hmk h4 h5
          obtain ⟨c', h9, h10⟩ := via h3 h7
          exact ⟨c', h9, by omega⟩
        · obtain ⟨c, h7, h8⟩ := h.tri m k k y u h1 hmk h4 h5
          rw [h0] at h7
          cases h7
          obtain ⟨c', h9, h10⟩ := via h3 h6
          exact ⟨c', h9, by omega⟩

/-- The distances of all pairs. -/
structure IsDist (n : Nat) (E : List Ord3) (d : Dist) : Prop where
  sound : ∀ i j c, d i j = some c → Walk n E i j c
  step : ∀ i j a, Step n E i j a → ∃ c, d i j = some c ∧ a ≤ c
  diag : ∀ i : Int, 0 ≤ i → i ≤ n → d i i = some 0
  tri : ∀ m i j a b : Int, d i m = some a → d m j = some b → ∃ c, d i j = some c ∧ a + b ≤ c

theorem IsDist.full {n : Nat} {E : List Ord3} {d : Dist} (h : IsDist n E d) {i j c : Int} (hw : Walk n E i j c) : ∃ c', d i j = some c' ∧ c ≤ c' := by
  induction hw with
  | nil h1 h2 => exact ⟨0, h.diag _ h1 h2, by omega⟩
  | snoc _ hs ih =>
    obtain ⟨c', h1, h2⟩ := ih
    obtain ⟨c'', h3, h4⟩ := h.step _ _ _ hs
    obtain ⟨c3, h5, h6⟩ := h.tri _ _ _ _ _ h1 h3
    exact ⟨c3, h5, by omega⟩
theorem IsDist.no_cycle {n : Nat} {E : List Ord3} {d : Dist} (hE : RightE n E) (h : IsDist n E d) {i c : Int} (hw : Walk n E i i c) : c ≤ 0 := by
  have he := hw.ends hE
  obtain ⟨c', h1, h2⟩ := h.full hw
  rw [h.diag i he.1.1 he.1.2] at h1
  cases h1
  exact h2

theorem toldV_sound (n : Nat) (k : Nat) (hk : k ≤ n + 1) (i j c : Int) (h : toldV (fun _ _ => none) k i j = some c) : c = 0 ∧ (i = 0 ∨ i = j) ∧ 0 ≤ j ∧ j < k := by
  induction k generalizing i j c with
  | zero => simp [toldV] at h
  | succ k ih =>
    simp only [toldV] at h
    by_cases e : i = (k : Int) ∧ j = (k : Int)
    · obtain ⟨rfl, rfl⟩ := e
      rw [raiseD_self] at h
      obtain ⟨c', e1, _, _, e4⟩ := comb_ge (raiseD (toldV (fun _ _ => none) k) 0 k 0 k k) 0
      rw [e1] at h
      cases h
      rcases e4 with rfl | e4
      · omega
      · by_cases e0 : (k : Int) = 0
        · rw [show raiseD (toldV (fun _ _ => none) k) 0 k 0 k k = comb (toldV (fun _ _ => none) k 0 k) 0 by simp [raiseD, e0]] at e4
          obtain ⟨c2, f1, _, _, f4⟩ := comb_ge (toldV (fun _ _ => none) k 0 k) 0
          rw [f1] at e4
          cases e4
          rcases f4 with rfl | f4
          · omega
          · have := ih (by omega) _ _ _ f4; omega
        · rw [raiseD_other _ _ (by omega)] at e4
          have := ih (by omega) _ _ _ e4; omega
    · rw [raiseD_other _ _ e] at h
      by_cases e2 : i = 0 ∧ j = (k : Int)
      · obtain ⟨rfl, rfl⟩ := e2
        rw [raiseD_self] at h
        obtain ⟨c2, f1, _, _, f4⟩ := comb_ge (toldV (fun _ _ => none) k 0 k) 0
        rw [f1] at h
        cases h
        rcases f4 with rfl | f4
        · omega
        · have := ih (by omega) _ _ _ f4; omega
      · rw [raiseD_other _ _ e2] at h
        have := ih (by omega) _ _ _ h; omega
theorem toldV_has (k : Nat) (v : Int) (h0 : 0 ≤ v) (h1 : v < k) : (∃ c, toldV (fun _ _ => none) k 0 v = some c ∧ 0 ≤ c) ∧ ∃ c, toldV (fun _ _ => none) k v v = some c ∧ 0 ≤ c := by
  induction k with
  | zero => omega
  | succ k ih =>
    simp only [toldV]
    by_cases e : v = k
    · subst e
      constructor
      · obtain ⟨c, f1, f2, _⟩ := comb_ge (toldV (fun _ _ => none) k 0 k) 0
        obtain ⟨c', g1, g2⟩ := raiseD_mono (d := raiseD (toldV (fun _ _ => none) k) 0 k 0) (a := 0) (b := k) (k := c) (by rw [raiseD_self]; exact f1) k k 0
        exact ⟨c', g1, by omega⟩
      · rw [raiseD_self]
        obtain ⟨c, f1, f2, _⟩ := comb_ge (raiseD (toldV (fun _ _ => none) k) 0 k 0 k k) 0
        exact ⟨c, f1, f2⟩
    · obtain ⟨⟨c, f1, f2⟩, c', f3, f4⟩ := ih (by omega)
      constructor
      · obtain ⟨x, g1, g2⟩ := raiseD_mono f1 0 k 0
        obtain ⟨y, g3, g4⟩ := raiseD_mono g1 k k 0
        exact ⟨y, g3, by omega⟩
      · obtain ⟨x, g1, g2⟩ := raiseD_mono f3 0 k 0
        obtain ⟨y, g3, g4⟩ := raiseD_mono g1 k k 0
        exact ⟨y, g3, by omega⟩
theorem toldO_mono (E : List Ord3) : ∀ (d : Dist) {i j k : Int}, d i j = some k → ∃ c, toldO d E i j = some c ∧ k ≤ c := by
  induction E with
  | nil => intro d i j k h; exact ⟨k, h, by omega⟩
  | cons o r ih =>
    intro d i j k h
    obtain ⟨c, h1, h2⟩ := raiseD_mono h o.1 o.2.2 o.2.1
    obtain ⟨c', h3, h4⟩ := ih (raiseD d o.1 o.2.2 o.2.1) h1
    exact ⟨c', h3, by omega⟩
theorem toldO_has (E : List Ord3) : ∀ (d : Dist) (o : Ord3), o ∈ E → ∃ c, toldO d E o.1 o.2.2 = some c ∧ o.2.1 ≤ c := by
  induction E with
  | nil => intro d o h; simp at h
  | cons p r ih =>
    intro d o h
    rcases List.mem_cons.1 h with rfl | h
    · obtain ⟨c, h1, h2, _⟩ := comb_ge (d o.1 o.2.2) o.2.1
      obtain ⟨c', h3, h4⟩ := toldO_mono r (raiseD d o.1 o.2.2 o.2.1) (i := o.1) (j := o.2.2) (k := c) (by rw [raiseD_self]; exact h1)
      exact ⟨c', h3, by omega⟩
    · exact ih (raiseD d p.1 p.2.2 p.2.1) o h
theorem toldO_inv (E : List Ord3) : ∀ (d : Dist) (i j c : Int), toldO d E i j = some c → d i j = some c ∨ (i, c, j) ∈ E := by
  induction E with
  | nil => intro d i j c h; exact Or.inl h
  | cons o r ih =>
    intro d i j c h
    rcases ih (raiseD d o.1 o.2.2 o.2.1) i j c h with h1 | h1
    · by_cases e : i = o.1 ∧ j = o.2.2
      · obtain ⟨rfl, rfl⟩ := e
        rw [raiseD_self] at h1
        obtain ⟨c', e1, _, _, e4⟩ := comb_ge (d o.1 o.2.2) o.2.1
        rw [e1] at h1
        cases h1
        rcases e4 with rfl | e4
        · exact Or.inr (by simp)
        · exact Or.inl e4
      · rw [raiseD_other _ _ e] at h1
        exact Or.inl h1
    · exact Or.inr (by simp [h1])
theorem told_inv (n : Nat) (E : List Ord3) (hE : RightE n E) : Inv n E (toldD n E) 0 := by
  refine ⟨?_, ?_, ?_, ?_, ?_⟩
  · intro i j c h
    rcases toldO_inv E _ i j c h with h1 | h1
    · obtain ⟨rfl, h2, h3, h4⟩ := toldV_sound n (n + 1) (by omega) i j c h1
      rcases h2 with rfl | rfl
      · have := (Walk.nil (n := n) (E := E) 0 (by omega) (by omega)).snoc (k := j) (a := 0) (Or.inl ⟨rfl, h3, by omega, rfl⟩)
        simpa using this
      · exact Walk.nil i h3 (by omega)
    · exact Step.walk hE (Or.inr h1)
  · intro i j a hs
    rcases hs with ⟨rfl, h1, h2, rfl⟩ | hs
    · obtain ⟨⟨c, f1, f2⟩, _⟩ := toldV_has (n + 1) j h1 (by omega)
      obtain ⟨c', f3, f4⟩ := toldO_mono E _ f1
      exact ⟨c', f3, by omega⟩
    · exact toldO_has E _ _ hs
  · intro i h1 h2
    obtain ⟨_, c, f1, f2⟩ := toldV_has (n + 1) i h1 (by omega)
    obtain ⟨c', f3, f4⟩ := toldO_mono E _ f1
    exact ⟨c', f3, by omega⟩
  · intro i h1 h2; omega
  · intro m i j a b h1 h2; omega

/-- Every value of a map of distances is from -B to B. -/
def BdD (B : Int) (d : Dist) : Prop := ∀ i j c, d i j = some c → -B ≤ c ∧ c ≤ B
theorem BdD.raise {B : Int} {d : Dist} (h : BdD B d) (i j : Int) {y : Int} (h1 : -B ≤ y) (h2 : y ≤ B) : BdD B (raiseD d i j y) := by
  intro a b c hc
  by_cases e : a = i ∧ b = j
  · obtain ⟨rfl, rfl⟩ := e
    rw [raiseD_self] at hc
    obtain ⟨c', e1, _, _, e4⟩ := comb_ge (d a b) y
    rw [e1] at hc
    cases hc
    rcases e4 with rfl | e4
    · exact ⟨h1, h2⟩
    · exact h _ _ _ e4
  · rw [raiseD_other _ _ e] at hc
    exact h _ _ _ hc
theorem BdD.mono {B B' : Int} {d : Dist} (h : BdD B d) (hB : B ≤ B') : BdD B' d := fun i j c hc => by have := h i j c hc; omega
theorem toldV_bd (k : Nat) : BdD 1000 (toldV (fun _ _ => none) k) := by
  induction k with
  | zero => intro i j c h; simp [toldV] at h
  | succ k ih => exact (ih.raise 0 k (by omega) (by omega)).raise k k (by omega) (by omega)
theorem toldO_bd {n : Nat} (E : List Ord3) (hE : RightE n E) : ∀ (d : Dist), BdD 1000 d → BdD 1000 (toldO d E) := by
  induction E with
  | nil => intro d h; exact h
  | cons o r ih =>
    intro d h
    have ho := (hE o (by simp)).2.2
    exact ih (fun p hp => hE p (by simp [hp])) _ (h.raise o.1 o.2.2 ho.1 ho.2)
theorem thr_bd {mid : Int} {n : Nat} {d : Dist} (h0 : d mid mid = some 0) {B : Int} (h : BdD B d) : BdD (2 * B) (thr mid n d) := by
  intro i j c hc
  rcases thr_inv h0 hc with h1 | ⟨a, b, h1, h2, rfl⟩
  · have := h _ _ _ h1; omega
  · have := h _ _ _ h1; have := h _ _ _ h2; omega

theorem reck_inv (n : Nat) (E : List Ord3) (hE : RightE n E) (k : Nat) (hk : k ≤ n + 1) :
    (∀ d, reckD n (toldD n E) k = some d → Inv n E d k ∧ BdD (1000 * 2 ^ k) d) ∧ (reckD n (toldD n E) k = none → ∃ i c, Walk n E i i c ∧ 0 < c) := by
  induction k with
  | zero =>
    refine ⟨fun d hd => ?_, fun h => by simp [reckD] at h⟩
    simp only [reckD, Option.some.injEq] at hd
    subst hd
    exact ⟨told_inv n E hE, (toldO_bd E hE _ (toldV_bd _)).mono (by omega)⟩
  | succ k ih =>
    obtain ⟨ih1, ih2⟩ := ih (by omega)
    simp only [reckD]
    cases hr : reckD n (toldD n E) k with
    | none => exact ⟨fun d hd => by simp at hd, fun _ => ih2 hr⟩
    | some d' =>
      obtain ⟨h1, h2⟩ := ih1 d' hr
      simp only
      obtain ⟨c, e1, e2⟩ := h1.self k (by omega) (by omega)
      split
      · rename_i hp
        refine ⟨fun d hd => by simp at hd, fun _ => ⟨k, c, h1.sound _ _ _ e1, ?_⟩⟩
        rw [e1] at hp
        exact hp
      · rename_i hp
        refine ⟨fun d hd => ?_, fun h => by simp at h⟩
        simp only [Option.some.injEq] at hd
        subst hd
        have hp' := hp
        rw [e1, Option.getD_some] at hp'
        have : c = 0 := by omega
        subst this
        refine ⟨h1.next hE (by omega) hp, ?_⟩
        have := thr_bd (n := n) e1 h2
        rwa [show (2 : Int) * (1000 * 2 ^ k) = 1000 * 2 ^ (k + 1) by rw [Int.pow_succ]; omega] at this
theorem reck_some {n : Nat} {E : List Ord3} (hE : RightE n E) {d : Dist} (h : reckD n (toldD n E) (n + 1) = some d) : IsDist n E d := by
  obtain ⟨h1, _⟩ := (reck_inv n E hE (n + 1) (Nat.le_refl _)).1 d h
  refine ⟨h1.sound, h1.step, fun i h2 h3 => h1.diag i h2 (by omega), fun m i j a b ha hb => h1.tri m i j a b ?_ ?_ ha hb⟩
  · exact ((h1.sound _ _ _ ha).ends hE).2.1
  · have := ((h1.sound _ _ _ ha).ends hE).2.2; omega
theorem reck_none {n : Nat} {E : List Ord3} (hE : RightE n E) (h : reckD n (toldD n E) (n + 1) = none) : ∃ i c, Walk n E i i c ∧ 0 < c :=
  (reck_inv n E hE (n + 1) (Nat.le_refl _)).2 h
end Go.Proofs.Ytdpannjnhhjicaa
