/- The way to the laws of books: LDist to LMap. -/
import Derived.Test.YtfeodppdmbideaaGreatDoorBA1
import Derived.Test.YtfeodppdmbideaaGreatDoorBA3
import Derived.Test.YtfeodppdmbideaaGreatDoorRows
import Derived.WalkKit
import Derived.Deep.OwnRows
import Derived.Deep.LoopGhost
import Derived.Deep.Draws
import Derived.Lib.Hide
import Derived.WalkSpells
import Derived.WalkLawsBesides
import Derived.Laws.CopyOwn
import Derived.Deep.QuietTactic
import Derived.BigQuiet
import Derived.Laws.OwnMore
import Derived.Laws.AppendOwnNone
import Derived.Deep.DeepMust
import Derived.Deep.RegionWith
import Derived.Maps.OwnSet
import Derived.DeepKeys4
namespace Go.Proofs.YtfeodppdmbideaaGreatDoor

abbrev Ord3 := Int × Int × Int
abbrev Dist := Int → Int → Option Int

/-- From j one gets to k in one step, for a more: by an order, or because 0 is below all. -/
def Step (n : Nat) (E : List Ord3) (j k a : Int) : Prop := (j = 0 ∧ 0 ≤ k ∧ k ≤ n ∧ a = 0) ∨ (j, a, k) ∈ E
inductive Walk (n : Nat) (E : List Ord3) : Int → Int → Int → Prop
  | nil (i : Int) : 0 ≤ i → i ≤ n → Walk n E i i 0
  | snoc {i j k c a : Int} : Walk n E i j c → Step n E j k a → Walk n E i k (c + a)
def RightO (n : Nat) (o : Ord3) : Prop := (0 ≤ o.1 ∧ o.1 ≤ n) ∧ (0 ≤ o.2.2 ∧ o.2.2 ≤ n) ∧ (-1000 ≤ o.2.1 ∧ o.2.1 ≤ 1000)
def RightE (n : Nat) (E : List Ord3) : Prop := ∀ o ∈ E, RightO n o

theorem Step.ends {n : Nat} {E : List Ord3} (hE : RightE n E) {j k a : Int} (h : Step n E j k a) : (0 ≤ j ∧ j ≤ n) ∧ (0 ≤ k ∧ k ≤ n) ∧ -1000 ≤ a ∧ a ≤ 1000 := by
  rcases h with ⟨rfl, h1, h2, rfl⟩ | h
  · omega
  · have := hE _ h; unfold RightO at this; simp only at this; omega
theorem Walk.ends {n : Nat} {E : List Ord3} (hE : RightE n E) {i j c : Int} (h : Walk n E i j c) : (0 ≤ i ∧ i ≤ n) ∧ (0 ≤ j ∧ j ≤ n) := by
  induction h with
  | nil h1 h2 => omega
  | snoc _ hs ih => have := hs.ends hE; omega
theorem Walk.trans {n : Nat} {E : List Ord3} {i j k c a : Int} (h : Walk n E i j c) (h' : Walk n E j k a) : Walk n E i k (c + a) := by
  induction h' with
  | nil _ _ => simpa using h
  | snoc _ hs ih => rw [← Int.add_assoc]; exact ih.snoc hs
theorem Step.walk {n : Nat} {E : List Ord3} (hE : RightE n E) {j k a : Int} (h : Step n E j k a) : Walk n E j k a := by
  have he := h.ends hE
  have := (Walk.nil (E := E) j he.1.1 he.1.2).snoc h
  simpa using this

/-- What a pair holds when so much is said of it. -/
def comb (x : Option Int) (y : Int) : Option Int := match x with | none => some y | some k => if k < y then some y else some k
def raiseD (d : Dist) (i j y : Int) : Dist := fun a b => if a = i ∧ b = j then comb (d i j) y else d a b
theorem comb_ge (x : Option Int) (y : Int) : ∃ c, comb x y = some c ∧ y ≤ c ∧ (∀ k, x = some k → k ≤ c) ∧ (c = y ∨ x = some c) := by
  unfold comb
  cases x with
  | none => exact ⟨y, rfl, by omega, (fun k h => by simp at h), Or.inl rfl⟩
  | some k =>
    by_cases h : k < y
    · exact ⟨y, by simp [h], by omega, (fun k' h' => by simp at h'; omega), Or.inl rfl⟩
    · exact ⟨k, by simp [h], by omega, (fun k' h' => by simp at h'; omega), Or.inr rfl⟩
theorem raiseD_self (d : Dist) (i j y : Int) : raiseD d i j y i j = comb (d i j) y := by simp [raiseD]
theorem raiseD_other (d : Dist) {i j a b : Int} (y : Int) (h : ¬ (a = i ∧ b = j)) : raiseD d i j y a b = d a b := by simp [raiseD, h]
theorem comb_some_of {x : Option Int} {k : Int} (h : x = some k) (y : Int) : ∃ c, comb x y = some c ∧ k ≤ c := by
  obtain ⟨c, h1, _, h3, _⟩ := comb_ge x y
  exact ⟨c, h1, h3 k h⟩
theorem raiseD_mono {d : Dist} {a b k : Int} (h : d a b = some k) (i j y : Int) : ∃ c, raiseD d i j y a b = some c ∧ k ≤ c := by
  by_cases e : a = i ∧ b = j
  · obtain ⟨rfl, rfl⟩ := e; rw [raiseD_self]; exact comb_some_of h y
  · rw [raiseD_other _ _ e]; exact ⟨k, h, by omega⟩

def thrHigh (mid low first : Int) (d : Dist) : Nat → Dist
  | 0 => d
  | k + 1 => match (thrHigh mid low first d k) mid k with
    | none => thrHigh mid low first d k
    | some s => raiseD (thrHigh mid low first d k) low k (first + s)
def thrLow (mid : Int) (n : Nat) (d : Dist) : Nat → Dist
  | 0 => d
  | k + 1 => match (thrLow mid n d k) k mid with
    | none => thrLow mid n d k
    | some f => thrHigh mid k f (thrLow mid n d k) (n + 1)
def thr (mid : Int) (n : Nat) (d : Dist) : Dist := thrLow mid n d (n + 1)
def reckD (n : Nat) (d : Dist) : Nat → Option Dist
  | 0 => some d
  | k + 1 => match reckD n d k with
    | none => none
    | some d' => if 0 < (d' k k).getD 0 then none else some (thr k n d')
def toldV (d : Dist) : Nat → Dist
  | 0 => d
  | k + 1 => raiseD (raiseD (toldV d k) 0 k 0) k k 0
def toldO (d : Dist) (E : List Ord3) : Dist := E.foldl (fun d o => raiseD d o.1 o.2.2 o.2.1) d
def toldD (n : Nat) (E : List Ord3) : Dist := toldO (toldV (fun _ _ => none) (n + 1)) E

theorem thrHigh_eq (mid low first : Int) (d : Dist) (k : Nat) (i j : Int) :
    thrHigh mid low first d k i j = if i = low ∧ 0 ≤ j ∧ j < k then (match d mid j with | none => d i j | some s => comb (d i j) (first + s)) else d i j := by
  induction k generalizing i j with
  | zero => simp only [thrHigh]; rw [if_neg (by omega)]
  | succ k ih =>
    have e : thrHigh mid low first d k mid k = d mid k := by rw [ih, if_neg (by omega)]
    simp only [thrHigh, e]
    by_cases h : i = low ∧ j = k
    · obtain ⟨rfl, rfl⟩ := h
      rw [if_pos (by omega)]
      cases hm : d mid k with
      | none => simp only; rw [ih, if_neg (by omega)]
      | some s => simp only; rw [raiseD_self, ih, if_neg (by omega)]
    · have e2 : (if i = low ∧ 0 ≤ j ∧ j < ((k + 1 : Nat) : Int) then (match d mid j with | none => d i j | some s => comb (d i j) (first + s)) else d i j) = thrHigh mid low first d k i j := by
        rw [ih]
        by_cases h2 : i = low ∧ 0 ≤ j ∧ j < (k : Int)
        · rw [if_pos h2, if_pos (by omega)]
        · rw [if_neg h2, if_neg (by omega)]
      rw [e2]
      cases hm : d mid k with
      | none => rfl
      | some s => simp only; rw [raiseD_other _ _ h]

theorem comb_self {x : Option Int} {b : Int} (h : x = some b) : comb x (0 + b) = x := by subst h; simp [comb]

theorem thrLow_eq (mid : Int) (n : Nat) (d : Dist) (h0 : d mid mid = some 0) (k : Nat) (i j : Int) :
    thrLow mid n d k i j = if (0 ≤ i ∧ i < k) ∧ 0 ≤ j ∧ j ≤ n then (match d i mid, d mid j with | some a, some b => comb (d i j) (a + b) | _, _ => d i j) else d i j := by
  induction k generalizing i j with
  | zero => simp only [thrLow]; rw [if_neg (by omega)]
  | succ k ih =>
    have e : thrLow mid n d k k mid = d k mid := by rw [ih, if_neg (by omega)]
    have er : ∀ j, thrLow mid n d k mid j = d mid j := by
      intro j
      rw [ih]
      split
      · rw [h0]; cases h : d mid j with
        | none => rfl
        | some b => exact comb_self rfl
      · rfl
    simp only [thrLow, e]
    cases hk : d k mid with
    | none =>
      simp only
      rw [ih]
      by_cases h1 : (0 ≤ i ∧ i < (k : Int)) ∧ 0 ≤ j ∧ j ≤ (n : Int)
      · rw [if_pos h1, if_pos (by omega)]
      · rw [if_neg h1]
        split
        · have : i = k := by omega
          subst this; rw [hk]
        · rfl
    | some f =>
      simp only
      rw [thrHigh_eq, er]
      by_cases hi : i = k
      · subst hi
        have e3 : thrLow mid n d k k j = d k j := by rw [ih, if_neg (by omega)]
        rw [e3]
        by_cases hj : 0 ≤ j ∧ j ≤ (n : Int)
        · rw [if_pos ⟨rfl, by omega⟩, if_pos (by omega), hk]
          cases d mid j <;> rfl
        · rw [if_neg (fun h => hj ⟨h.2.1, by omega⟩), if_neg (fun h => hj h.2)]
      · rw [if_neg (by omega), ih]
        by_cases h1 : (0 ≤ i ∧ i < (k : Int)) ∧ 0 ≤ j ∧ j ≤ (n : Int)
        · rw [if_pos h1, if_pos (by omega)]
        · rw [if_neg h1, if_neg (by omega)]

theorem thr_none {mid : Int} {n : Nat} {d : Dist} (h0 : d mid mid = some 0) {i j : Int} (h : (0 ≤ i ∧ i ≤ n) ∧ 0 ≤ j ∧ j ≤ n) (h1 : d i mid = none ∨ d mid j = none) : thr mid n d i j = d i j := by
  unfold thr
  rw [thrLow_eq mid n d h0, if_pos (by omega)]
  rcases h1 with h1 | h1 <;> rw [h1]
  cases d i mid <;> rfl
theorem thr_some {mid : Int} {n : Nat} {d : Dist} (h0 : d mid mid = some 0) {i j a b : Int} (h : (0 ≤ i ∧ i ≤ n) ∧ 0 ≤ j ∧ j ≤ n) (h1 : d i mid = some a) (h2 : d mid j = some b) : thr mid n d i j = comb (d i j) (a + b) := by
  unfold thr
  rw [thrLow_eq mid n d h0, if_pos (by omega), h1, h2]
theorem thr_out {mid : Int} {n : Nat} {d : Dist} (h0 : d mid mid = some 0) {i j : Int} (h : ¬ ((0 ≤ i ∧ i ≤ n) ∧ 0 ≤ j ∧ j ≤ n)) : thr mid n d i j = d i j := by
  unfold thr
  rw [thrLow_eq mid n d h0, if_neg (by omega)]

/-- What stands in thr: what stood there, or a way through mid. -/
theorem thr_inv {mid : Int} {n : Nat} {d : Dist} (h0 : d mid mid = some 0) {i j c : Int} (h : thr mid n d i j = some c) : d i j = some c ∨ ∃ a b, d i mid = some a ∧ d mid j = some b ∧ c = a + b := by
  by_cases hin : (0 ≤ i ∧ i ≤ (n : Int)) ∧ 0 ≤ j ∧ j ≤ (n : Int)
  · cases h1 : d i mid with
    | none => rw [thr_none h0 hin (Or.inl h1)] at h; exact Or.inl h
    | some a =>
      cases h2 : d mid j with
      | none => rw [thr_none h0 hin (Or.inr h2)] at h; exact Or.inl h
      | some b =>
        rw [thr_some h0 hin h1 h2] at h
        obtain ⟨c', e1, _, _, e4⟩ := comb_ge (d i j) (a + b)
        rw [e1] at h
        cases h
        rcases e4 with e | e
        · exact Or.inr ⟨a, b, rfl, rfl, e⟩
        · exact Or.inl e
  · rw [thr_out h0 hin] at h; exact Or.inl h
theorem thr_mono {mid : Int} {n : Nat} {d : Dist} (h0 : d mid mid = some 0) {i j c : Int} (h : d i j = some c) : ∃ c', thr mid n d i j = some c' ∧ c ≤ c' := by
  by_cases hin : (0 ≤ i ∧ i ≤ (n : Int)) ∧ 0 ≤ j ∧ j ≤ (n : Int)
  · cases h1 : d i mid with
    | none => rw [thr_none h0 hin (Or.inl h1)]; exact ⟨c, h, by omega⟩
    | some a =>
      cases h2 : d mid j with
      | none => rw [thr_none h0 hin (Or.inr h2)]; exact ⟨c, h, by omega⟩
      | some b => rw [thr_some h0 hin h1 h2]; exact comb_some_of h _
  · rw [thr_out h0 hin]; exact ⟨c, h, by omega⟩

structure Inv (n : Nat) (E : List Ord3) (d : Dist) (k : Nat) : Prop where
  sound : ∀ i j c, d i j = some c → Walk n E i j c
  step : ∀ i j a, Step n E i j a → ∃ c, d i j = some c ∧ a ≤ c
  self : ∀ i : Int, 0 ≤ i → i ≤ n → ∃ c, d i i = some c ∧ 0 ≤ c
  diag : ∀ i : Int, 0 ≤ i → i < k → d i i = some 0
  tri : ∀ m i j a b : Int, 0 ≤ m → m < k → d i m = some a → d m j = some b → ∃ c, d i j = some c ∧ a + b ≤ c

theorem Inv.next {n : Nat} {E : List Ord3} {d : Dist} {k : Nat} (hE : RightE n E) (h : Inv n E d k) (hk : k ≤ n) (hc : ¬ 0 < (d k k).getD 0) : Inv n E (thr k n d) (k + 1) := by
  have h0 : d k k = some 0 := by
    obtain ⟨c, h1, h2⟩ := h.self k (by omega) (by omega)
    rw [h1] at hc ⊢
    simp only [Option.getD_some] at hc
    have : c = 0 := by omega
    rw [this]
  have hin : ∀ {i j c : Int}, d i j = some c → (0 ≤ i ∧ i ≤ (n : Int)) ∧ 0 ≤ j ∧ j ≤ (n : Int) := fun h' => (h.sound _ _ _ h').ends hE
  -- a way through k is in thr
  have via : ∀ {i j a b : Int}, d i k = some a → d k j = some b → ∃ c, thr k n d i j = some c ∧ a + b ≤ c := by
    intro i j a b h1 h2
    have hi := (hin h1).1
    have hj := (hin h2).2
    rw [thr_some h0 ⟨hi, hj⟩ h1 h2]
    obtain ⟨c, e1, e2, _⟩ := comb_ge (d i j) (a + b)
    exact ⟨c, e1, e2⟩
  have old : ∀ {i j c : Int}, d i j = some c → ∃ c', thr k n d i j = some c' ∧ c ≤ c' := fun h' => thr_mono h0 h'
  refine ⟨?_, ?_, ?_, ?_, ?_⟩
  · intro i j c hc
    rcases thr_inv h0 hc with h1 | ⟨a, b, h1, h2, rfl⟩
    · exact h.sound _ _ _ h1
    · exact (h.sound _ _ _ h1).trans (h.sound _ _ _ h2)
  · intro i j a hs
    obtain ⟨c, h1, h2⟩ := h.step i j a hs
    obtain ⟨c', h3, h4⟩ := old h1
    exact ⟨c', h3, by omega⟩
  · intro i h1 h2
    obtain ⟨c, h3, h4⟩ := h.self i h1 h2
    obtain ⟨c', h5, h6⟩ := old h3
    exact ⟨c', h5, by omega⟩
  · intro i h1 h2
    by_cases hi : i = k
    · subst hi
      rw [thr_some h0 ⟨⟨h1, by omega⟩, h1, by omega⟩ h0 h0, h0]
      rfl
    · have hd := h.diag i h1 (by omega)
      obtain ⟨c', h5, h6⟩ := old hd
      rw [h5]
      rcases thr_inv h0 h5 with h7 | ⟨a, b, h7, h8, rfl⟩
      · rw [hd] at h7; exact h7.symm
      · obtain ⟨c, h9, h10⟩ := h.tri i k k b a h1 (by omega) h8 h7
        rw [h0] at h9
        cases h9
        have : a + b = 0 := by omega
        rw [this]
  · intro m i j a b h1 h2 ha hb
    by_cases hm : m = k
    · subst hm
      have ha' : d i k = some a := by
        rcases thr_inv h0 ha with h7 | ⟨x, y, h7, h8, rfl⟩
        · exact h7
        · rw [h0] at h8; cases h8; simpa using h7
      have hb' : d k j = some b := by
        rcases thr_inv h0 hb with h7 | ⟨x, y, h7, h8, rfl⟩
        · exact h7
        · rw [h0] at h7; cases h7; simpa using h8
      exact via ha' hb'
    · have hmk : m < k := by omega
      rcases thr_inv h0 ha with h3 | ⟨x, y, h3, h4, rfl⟩
      · rcases thr_inv h0 hb with h5 | ⟨u, v, h5, h6, rfl⟩
        · obtain ⟨c, h7, h8⟩ := h.tri m i j a b h1 hmk h3 h5
          obtain ⟨c', h9, h10⟩ := old h7
          exact ⟨c', h9, by omega⟩
        · obtain ⟨c, h7, h8⟩ := h.tri m i k a u h1 hmk h3 h5
          obtain ⟨c', h9, h10⟩ := via h7 h6
          exact ⟨c', h9, by omega⟩
      · rcases thr_inv h0 hb with h5 | ⟨u, v, h5, h6, rfl⟩
        · obtain ⟨c, h7, h8⟩ := h.tri m k j y b h1 hmk h4 h5
          obtain ⟨c', h9, h10⟩ := via h3 h7
          exact ⟨c', h9, by omega⟩
        · obtain ⟨c, h7, h8⟩ := h.tri m k k y u h1 hmk h4 h5
          rw [h0] at h7
          cases h7
          obtain ⟨c', h9, h10⟩ := via h3 h6
          exact ⟨c', h9, by omega⟩

theorem toldV_sound (n : Nat) (k : Nat) (hk : k ≤ n + 1) (i j c : Int) (h : toldV (fun _ _ => none) k i j = some c) : c = 0 ∧ (i = 0 ∨ i = j) ∧ 0 ≤ j ∧ j < k := by
  induction k generalizing i j c with
  | zero => simp [toldV] at h
  | succ k ih =>
    simp only [toldV] at h
    by_cases e : i = (k : Int) ∧ j = (k : Int)
    · obtain ⟨rfl, rfl⟩ := e
      rw [raiseD_self] at h
      obtain ⟨c', e1, _, _, e4⟩ := comb_ge (raiseD (toldV (fun _ _ => none) k) 0 k 0 k k) 0
      rw [e1] at h
      cases h
      rcases e4 with rfl | e4
      · omega
      · by_cases e0 : (k : Int) = 0
        · rw [show raiseD (toldV (fun _ _ => none) k) 0 k 0 k k = comb (toldV (fun _ _ => none) k 0 k) 0 by simp [raiseD, e0]] at e4
          obtain ⟨c2, f1, _, _, f4⟩ := comb_ge (toldV (fun _ _ => none) k 0 k) 0
          rw [f1] at e4
          cases e4
          rcases f4 with rfl | f4
          · omega
          · have := ih (by omega) _ _ _ f4; omega
        · rw [raiseD_other _ _ (by omega)] at e4
          have := ih (by omega) _ _ _ e4; omega
    · rw [raiseD_other _ _ e] at h
      by_cases e2 : i = 0 ∧ j = (k : Int)
      · obtain ⟨rfl, rfl⟩ := e2
        rw [raiseD_self] at h
        obtain ⟨c2, f1, _, _, f4⟩ := comb_ge (toldV (fun _ _ => none) k 0 k) 0
        rw [f1] at h
        cases h
        rcases f4 with rfl | f4
        · omega
        · have := ih (by omega) _ _ _ f4; omega
      · rw [raiseD_other _ _ e2] at h
        have := ih (by omega) _ _ _ h; omega
theorem toldV_has (k : Nat) (v : Int) (h0 : 0 ≤ v) (h1 : v < k) : (∃ c, toldV (fun _ _ => none) k 0 v = some c ∧ 0 ≤ c) ∧ ∃ c, toldV (fun _ _ => none) k v v = some c ∧ 0 ≤ c := by
  induction k with
  | zero => omega
  | succ k ih =>
    simp only [toldV]
    by_cases e : v = k
    · subst e
      constructor
      · obtain ⟨c, f1, f2, _⟩ := comb_ge (toldV (fun _ _ => none) k 0 k) 0
        obtain ⟨c', g1, g2⟩ := raiseD_mono (d := raiseD (toldV (fun _ _ => none) k) 0 k 0) (a := 0) (b := k) (k := c) (by rw [raiseD_self]; exact f1) k k 0
        exact ⟨c', g1, by omega⟩
      · rw [raiseD_self]
        obtain ⟨c, f1, f2, _⟩ := comb_ge (raiseD (toldV (fun _ _ => none) k) 0 k 0 k k) 0
        exact ⟨c, f1, f2⟩
    · obtain ⟨⟨c, f1, f2⟩, c', f3, f4⟩ := ih (by omega)
      constructor
      · obtain ⟨x, g1, g2⟩ := raiseD_mono f1 0 k 0
        obtain ⟨y, g3, g4⟩ := raiseD_mono g1 k k 0
        exact ⟨y, g3, by omega⟩
      · obtain ⟨x, g1, g2⟩ := raiseD_mono f3 0 k 0
        obtain ⟨y, g3, g4⟩ := raiseD_mono g1 k k 0
        exact ⟨y, g3, by omega⟩
theorem toldO_mono (E : List Ord3) : ∀ (d : Dist) {i j k : Int}, d i j = some k → ∃ c, toldO d E i j = some c ∧ k ≤ c := by
  induction E with
  | nil => intro d i j k h; exact ⟨k, h, by omega⟩
  | cons o r ih =>
    intro d i j k h
    obtain ⟨c, h1, h2⟩ := raiseD_mono h o.1 o.2.2 o.2.1
    obtain ⟨c', h3, h4⟩ := ih (raiseD d o.1 o.2.2 o.2.1) h1
    exact ⟨c', h3, by omega⟩
theorem toldO_has (E : List Ord3) : ∀ (d : Dist) (o : Ord3), o ∈ E → ∃ c, toldO d E o.1 o.2.2 = some c ∧ o.2.1 ≤ c := by
  induction E with
  | nil => intro d o h; simp at h
  | cons p r ih =>
    intro d o h
    rcases List.mem_cons.1 h with rfl | h
    · obtain ⟨c, h1, h2, _⟩ := comb_ge (d o.1 o.2.2) o.2.1
      obtain ⟨c', h3, h4⟩ := toldO_mono r (raiseD d o.1 o.2.2 o.2.1) (i := o.1) (j := o.2.2) (k := c) (by rw [raiseD_self]; exact h1)
      exact ⟨c', h3, by omega⟩
    · exact ih (raiseD d p.1 p.2.2 p.2.1) o h
theorem toldO_inv (E : List Ord3) : ∀ (d : Dist) (i j c : Int), toldO d E i j = some c → d i j = some c ∨ (i, c, j) ∈ E := by
  induction E with
  | nil => intro d i j c h; exact Or.inl h
  | cons o r ih =>
    intro d i j c h
    rcases ih (raiseD d o.1 o.2.2 o.2.1) i j c h with h1 | h1
    · by_cases e : i = o.1 ∧ j = o.2.2
      · obtain ⟨rfl, rfl⟩ := e
        rw [raiseD_self] at h1
        obtain ⟨c', e1, _, _, e4⟩ := comb_ge (d o.1 o.2.2) o.2.1
        rw [e1] at h1
        cases h1
        rcases e4 with rfl | e4
        · exact Or.inr (by simp)
        · exact Or.inl e4
      · rw [raiseD_other _ _ e] at h1
        exact Or.inl h1
    · exact Or.inr (by simp [h1])
theorem told_inv (n : Nat) (E : List Ord3) (hE : RightE n E) : Inv n E (toldD n E) 0 := by
  refine ⟨?_, ?_, ?_, ?_, ?_⟩
  · intro i j c h
    rcases toldO_inv E _ i j c h with h1 | h1
    · obtain ⟨rfl, h2, h3, h4⟩ := toldV_sound n (n + 1) (by omega) i j c h1
      rcases h2 with rfl | rfl
      · have := (Walk.nil (n := n) (E := E) 0 (by omega) (by omega)).snoc (k := j) (a := 0) (Or.inl ⟨rfl, h3, by omega, rfl⟩)
        simpa using this
      · exact Walk.nil i h3 (by omega)
    · exact Step.walk hE (Or.inr h1)
  · intro i j a hs
    rcases hs with ⟨rfl, h1, h2, rfl⟩ | hs
    · obtain ⟨⟨c, f1, f2⟩, _⟩ := toldV_has (n + 1) j h1 (by omega)
      obtain ⟨c', f3, f4⟩ := toldO_mono E _ f1
      exact ⟨c', f3, by omega⟩
    · exact toldO_has E _ _ hs
  · intro i h1 h2
    obtain ⟨_, c, f1, f2⟩ := toldV_has (n + 1) i h1 (by omega)
    obtain ⟨c', f3, f4⟩ := toldO_mono E _ f1
    exact ⟨c', f3, by omega⟩
  · intro i h1 h2; omega
  · intro m i j a b h1 h2; omega

/-- Every value of a map of distances is from -B to B. -/
def BdD (B : Int) (d : Dist) : Prop := ∀ i j c, d i j = some c → -B ≤ c ∧ c ≤ B
theorem BdD.raise {B : Int} {d : Dist} (h : BdD B d) (i j : Int) {y : Int} (h1 : -B ≤ y) (h2 : y ≤ B) : BdD B (raiseD d i j y) := by
  intro a b c hc
  by_cases e : a = i ∧ b = j
  · obtain ⟨rfl, rfl⟩ := e
    rw [raiseD_self] at hc
    obtain ⟨c', e1, _, _, e4⟩ := comb_ge (d a b) y
    rw [e1] at hc
    cases hc
    rcases e4 with rfl | e4
    · exact ⟨h1, h2⟩
    · exact h _ _ _ e4
  · rw [raiseD_other _ _ e] at hc
    exact h _ _ _ hc
theorem BdD.mono {B B' : Int} {d : Dist} (h : BdD B d) (hB : B ≤ B') : BdD B' d := fun i j c hc => by have := h i j c hc; omega
theorem toldV_bd (k : Nat) : BdD 1000 (toldV (fun _ _ => none) k) := by
  induction k with
  | zero => intro i j c h; simp [toldV] at h
  | succ k ih => exact (ih.raise 0 k (by omega) (by omega)).raise k k (by omega) (by omega)
theorem toldO_bd {n : Nat} (E : List Ord3) (hE : RightE n E) : ∀ (d : Dist), BdD 1000 d → BdD 1000 (toldO d E) := by
  induction E with
  | nil => intro d h; exact h
  | cons o r ih =>
    intro d h
    have ho := (hE o (by simp)).2.2
    exact ih (fun p hp => hE p (by simp [hp])) _ (h.raise o.1 o.2.2 ho.1 ho.2)
theorem thr_bd {mid : Int} {n : Nat} {d : Dist} (h0 : d mid mid = some 0) {B : Int} (h : BdD B d) : BdD (2 * B) (thr mid n d) := by
  intro i j c hc
  rcases thr_inv h0 hc with h1 | ⟨a, b, h1, h2, rfl⟩
  · have := h _ _ _ h1; omega
  · have := h _ _ _ h1; have := h _ _ _ h2; omega

theorem reck_inv (n : Nat) (E : List Ord3) (hE : RightE n E) (k : Nat) (hk : k ≤ n + 1) :
    (∀ d, reckD n (toldD n E) k = some d → Inv n E d k ∧ BdD (1000 * 2 ^ k) d) ∧ (reckD n (toldD n E) k = none → ∃ i c, Walk n E i i c ∧ 0 < c) := by
  induction k with
  | zero =>
    refine ⟨fun d hd => ?_, fun h => by simp [reckD] at h⟩
    simp only [reckD, Option.some.injEq] at hd
    subst hd
    exact ⟨told_inv n E hE, (toldO_bd E hE _ (toldV_bd _)).mono (by omega)⟩
  | succ k ih =>
    obtain ⟨ih1, ih2⟩ := ih (by omega)
    simp only [reckD]
    cases hr : reckD n (toldD n E) k with
    | none => exact ⟨fun d hd => by simp at hd, fun _ => ih2 hr⟩
    | some d' =>
      obtain ⟨h1, h2⟩ := ih1 d' hr
      simp only
      obtain ⟨c, e1, e2⟩ := h1.self k (by omega) (by omega)
      split
      · rename_i hp
        refine ⟨fun d hd => by simp at hd, fun _ => ⟨k, c, h1.sound _ _ _ e1, ?_⟩⟩
        rw [e1] at hp
        exact hp
      · rename_i hp
        refine ⟨fun d hd => ?_, fun h => by simp at h⟩
        simp only [Option.some.injEq] at hd
        subst hd
        have hp' := hp
        rw [e1, Option.getD_some] at hp'
        have : c = 0 := by omega
        subst this
        refine ⟨h1.next hE (by omega) hp, ?_⟩
        have := thr_bd (n := n) e1 h2
        rwa [show (2 : Int) * (1000 * 2 ^ k) = 1000 * 2 ^ (k + 1) by rw [Int.pow_succ]; omega] at this
end Go.Proofs.YtfeodppdmbideaaGreatDoor
namespace Go.Proofs.YtfeodppdmbideaaGreatDoor

def NONE : Int := -1000000000
def at0 (l : List Int) (v : Int) : Int := l.getD v.toNat NONE
/-- One step: v is raised, if u has a value. -/
def fires (l : List Int) (s : Ord3) : Bool := decide (at0 l s.1 ≠ NONE) && decide (at0 l s.2.2 < at0 l s.1 + s.2.1)
def relax (l : List Int) (s : Ord3) : List Int := if fires l s then l.set s.2.2.toNat (at0 l s.1 + s.2.1) else l
def relaxT (x : List Int × Bool) (s : Ord3) : List Int × Bool := (relax x.1 s, x.2 || fires x.1 s)
def zeros (k : Nat) : List Ord3 := (List.range k).map fun (v : Nat) => ((0 : Int), (0 : Int), (v : Int))
def steps (n : Nat) (E : List Ord3) : List Ord3 := zeros (n + 1) ++ E
theorem relax_length (l : List Int) (s : Ord3) : (relax l s).length = l.length := by unfold relax; split <;> simp
theorem mem_steps {n : Nat} {E : List Ord3} {s : Ord3} : s ∈ steps n E ↔ (s.1 = 0 ∧ s.2.1 = 0 ∧ 0 ≤ s.2.2 ∧ s.2.2 ≤ n) ∨ s ∈ E := by
  unfold steps zeros
  rw [List.mem_append, List.mem_map]
  obtain ⟨a, b, c⟩ := s
  constructor
  · rintro (⟨v, hv, h⟩ | h)
    · rw [List.mem_range] at hv
      simp only [Prod.mk.injEq] at h
      exact Or.inl (by simp only; omega)
    · exact Or.inr h
  · rintro (⟨h1, h2, h3, h4⟩ | h)
    · simp only at h1 h2 h3 h4
      refine Or.inl ⟨c.toNat, List.mem_range.2 (by omega), ?_⟩
      simp only [Prod.mk.injEq]
      omega
    · exact Or.inr h
theorem step_of_mem {n : Nat} {E : List Ord3} {s : Ord3} (h : s ∈ steps n E) : Step n E s.1 s.2.2 s.2.1 := by
  rcases mem_steps.1 h with ⟨h1, h2, h3, h4⟩ | h
  · exact Or.inl ⟨h1, h3, h4, h2⟩
  · exact Or.inr h
theorem at0_set {l : List Int} {v : Int} (y : Int) {x : Int} (hv : 0 ≤ v) (hv2 : v < l.length) (hx : 0 ≤ x) : at0 (l.set v.toNat y) x = if x = v then y else at0 l x := by
  unfold at0
  by_cases h : x = v
  · subst h
    rw [if_pos rfl]
    simp only [List.getD_eq_getElem?_getD]
    rw [List.getElem?_set_self (by omega)]
    rfl
  · rw [if_neg h]
    simp only [List.getD_eq_getElem?_getD]
    rw [List.getElem?_set_ne (by omega)]

theorem relax_at {l : List Int} {s : Ord3} (hv : 0 ≤ s.2.2) (hv2 : s.2.2 < l.length) {x : Int} (hx : 0 ≤ x) : at0 (relax l s) x = if fires l s = true ∧ x = s.2.2 then at0 l s.1 + s.2.1 else at0 l x := by
  unfold relax
  by_cases h : fires l s = true
  · rw [if_pos h, at0_set _ hv hv2 hx]
    by_cases h2 : x = s.2.2
    · rw [if_pos h2, if_pos ⟨h, h2⟩]
    · rw [if_neg h2, if_neg (fun h3 => h2 h3.2)]
  · rw [if_neg h, if_neg (fun h3 => h h3.1)]
theorem fires_iff {l : List Int} {s : Ord3} : fires l s = true ↔ at0 l s.1 ≠ NONE ∧ at0 l s.2.2 < at0 l s.1 + s.2.1 := by simp [fires]
/-- What holds while values are raised: each value is a way's, and none is great. -/
structure LGood (n : Nat) (E : List Ord3) (low : Int) (b : Int) (l : List Int) : Prop where
  len : l.length = n + 1
  way : ∀ v : Int, 0 ≤ v → v ≤ n → at0 l v ≠ NONE → Walk n E low v (at0 l v) ∧ -b ≤ at0 l v ∧ at0 l v ≤ b

theorem LGood.relax {n : Nat} {E : List Ord3} {low b : Int} {l : List Int} (hE : RightE n E) (h : LGood n E low b l) {s : Ord3} (hs : s ∈ steps n E) : LGood n E low (b + 1000) (relax l s) := by
  have h1 := step_of_mem hs
  have h2 := h1.ends hE
  have hl := h.len
  refine ⟨by rw [relax_length]; exact h.len, fun v hv0 hv1 hn => ?_⟩
  rw [relax_at h2.2.1.1 (by omega) hv0] at hn ⊢
  by_cases h3 : fires l s = true ∧ v = s.2.2
  · rw [if_pos h3]
    obtain ⟨h4, rfl⟩ := h3
    obtain ⟨w1, w2, w3⟩ := h.way s.1 h2.1.1 h2.1.2 (fires_iff.1 h4).1
    exact ⟨w1.snoc h1, by omega, by omega⟩
  · rw [if_neg h3] at hn ⊢
    obtain ⟨w1, w2, w3⟩ := h.way v hv0 hv1 hn
    exact ⟨w1, by omega, by omega⟩
theorem LGood.fold {n : Nat} {E : List Ord3} {low : Int} (hE : RightE n E) : ∀ (S : List Ord3) (b : Int) (x : List Int × Bool), (∀ s ∈ S, s ∈ steps n E) → LGood n E low b x.1 → LGood n E low (b + 1000 * S.length) (S.foldl relaxT x).1 := by
  intro S
  induction S with
  | nil => intro b x _ h; simpa using h
  | cons s r ih =>
    intro b x hS h
    have h1 := h.relax hE (hS s (by simp))
    have h2 := ih (b + 1000) (relaxT x s) (fun y hy => hS y (by simp [hy])) h1
    rw [List.foldl_cons, show b + 1000 * ((s :: r).length : Int) = b + 1000 + 1000 * (r.length : Int) by simp only [List.length_cons]; omega]
    exact h2
/-! ### It ends, where distances are. -/
/-- How many variables have their last value. -/
def done (d : Dist) (low : Int) (l : List Int) (k : Nat) : Nat := (List.range k).countP fun (v : Nat) => decide (d low v = some (at0 l v))
def todo (d : Dist) (low : Int) (k : Nat) : Nat := (List.range k).countP fun (v : Nat) => (d low v).isSome

end Go.Proofs.YtfeodppdmbideaaGreatDoor
namespace Go.Proofs.YtfeodppdmbideaaGreatDoor
/-! ### values -/
def valOf (vals : List Int) (v : Int) : Int := if 1 ≤ v ∧ v ≤ vals.length then vals.getD (v - 1).toNat 0 else 0
theorem valOf_zero (vals : List Int) : valOf vals 0 = 0 := by simp [valOf]
def Meet (vals : List Int) (E : List Ord3) : Prop := (∀ x ∈ vals, 0 ≤ x) ∧ ∀ o ∈ E, valOf vals o.1 + o.2.1 ≤ valOf vals o.2.2
theorem valOf_nonneg {vals : List Int} (h : ∀ x ∈ vals, 0 ≤ x) (v : Int) : 0 ≤ valOf vals v := by
  unfold valOf
  split
  · rename_i h1
    rw [List.getD_eq_getElem?_getD, List.getElem?_eq_getElem (by omega)]
    exact h _ (List.getElem_mem _)
  · omega
theorem Meet.step {n : Nat} {E : List Ord3} {vals : List Int} (h : Meet vals E) {j k a : Int} (hs : Step n E j k a) : valOf vals j + a ≤ valOf vals k := by
  rcases hs with ⟨rfl, _, _, rfl⟩ | hs
  · rw [valOf_zero]; have := valOf_nonneg h.1 k; omega
  · exact h.2 _ hs
theorem Meet.walk {n : Nat} {E : List Ord3} {vals : List Int} (h : Meet vals E) {j k a : Int} (hw : Walk n E j k a) : valOf vals j + a ≤ valOf vals k := by
  induction hw with
  | nil _ _ => omega
  | snoc _ hs ih => have := h.step hs; omega

end Go.Proofs.YtfeodppdmbideaaGreatDoor
namespace Go.Proofs.YtfeodppdmbideaaGreatDoor
open Go.RowKit



/-- Atoms as cells. -/
abbrev Atom2 := Int × Int
def atomV (x : Atom2) : List Value := [.int .i64 x.1, .int .i64 x.2]
def atomsV (t : List Atom2) : List Value := t.flatMap atomV
theorem atomsV_cons (x : Atom2) (t : List Atom2) : atomsV (x :: t) = atomV x ++ atomsV t := by unfold atomsV; rw [List.flatMap_cons]
theorem atomsV_append (l r : List Atom2) : atomsV (l ++ r) = atomsV l ++ atomsV r := by unfold atomsV; rw [List.flatMap_append]
theorem atomsV_len (t : List Atom2) : (atomsV t).length = t.length * 2 := by
  induction t with
  | nil => rfl
  | cons x t ih => rw [atomsV_cons, List.length_append, ih, List.length_cons]; simp [atomV]; omega
theorem atomsV_get {t : List Atom2} {j f : Nat} (h : j < t.length) (hf : f < 2) : (atomsV t)[j * 2 + f]? = (atomV t[j])[f]? := by
  induction t generalizing j with
  | nil => simp at h
  | cons x t ih =>
    rw [atomsV_cons]
    cases j with
    | zero => rw [List.getElem?_append_left (by simp [atomV]; omega)]; simp
    | succ j =>
      rw [List.getElem?_append_right (by simp [atomV]; omega), show (j + 1) * 2 + f - (atomV x).length = j * 2 + f by simp [atomV]; omega, ih (by simpa using h)]
      rfl
theorem atomsV_get0 {t : List Atom2} {j : Nat} (h : j < t.length) : (atomsV t)[j * 2]? = some (.int .i64 t[j].1) := atomsV_get (f := 0) h (by decide)
theorem atomsV_get1 {t : List Atom2} {j : Nat} (h : j < t.length) : (atomsV t)[j * 2 + 1]? = some (.int .i64 t[j].2) := atomsV_get (f := 1) h (by decide)
/-- Orders as cells: Low, Add, High. -/
def ordV (x : Ord3) : List Value := [.int .i64 x.1, .int .i64 x.2.1, .int .i64 x.2.2]
def ordsV (t : List Ord3) : List Value := t.flatMap ordV
theorem ordsV_cons (x : Ord3) (t : List Ord3) : ordsV (x :: t) = ordV x ++ ordsV t := by unfold ordsV; rw [List.flatMap_cons]
theorem ordsV_len (t : List Ord3) : (ordsV t).length = t.length * 3 := by
  induction t with
  | nil => rfl
  | cons x t ih => rw [ordsV_cons, List.length_append, ih, List.length_cons]; simp [ordV]; omega
theorem ordsV_get {t : List Ord3} {j f : Nat} (h : j < t.length) (hf : f < 3) : (ordsV t)[j * 3 + f]? = (ordV t[j])[f]? := by
  induction t generalizing j with
  | nil => simp at h
  | cons x t ih =>
    rw [ordsV_cons]
    cases j with
    | zero => rw [List.getElem?_append_left (by simp [ordV]; omega)]; simp
    | succ j =>
      rw [List.getElem?_append_right (by simp [ordV]; omega), show (j + 1) * 3 + f - (ordV x).length = j * 3 + f by simp [ordV]; omega, ih (by simpa using h)]
      rfl
theorem ordsV_get0 {t : List Ord3} {j : Nat} (h : j < t.length) : (ordsV t)[j * 3]? = some (.int .i64 t[j].1) := ordsV_get (f := 0) h (by decide)
theorem ordsV_get1 {t : List Ord3} {j : Nat} (h : j < t.length) : (ordsV t)[j * 3 + 1]? = some (.int .i64 t[j].2.1) := ordsV_get (f := 1) h (by decide)
theorem ordsV_get2 {t : List Ord3} {j : Nat} (h : j < t.length) : (ordsV t)[j * 3 + 2]? = some (.int .i64 t[j].2.2) := ordsV_get (f := 2) h (by decide)
end Go.Proofs.YtfeodppdmbideaaGreatDoor
namespace Go.Proofs.YtfeodppdmbideaaGreatDoor
open Go.RowKit
open Go.Maps (Keyed)

theorem Tryz.laid0 : laidOutB Tryz.prog = true := by kernel_rfl
theorem Tryz.rowPair : (226 : TypeId) < Tryz.prog.types.size := of_decide_eq_true (by kernel_rfl)
theorem Tryz.widePair : (match Tryz.prog.underlying 226 with | some (.array _ _) | some (.struct _) => true | _ => false) = true := by kernel_rfl
set_option maxRecDepth 100000 in
theorem lawPair : Keyed Tryz.prog 226 := Keyed.of_law (deep_law_laid Tryz.laid0 (m := 3) (by omega) Tryz.rowPair (by kernel_rfl) Tryz.widePair)
abbrev pairV (i j : Int) : Value := .agg #[.int .i64 i, .int .i64 j]
theorem zeroI (w : World) : (zeroValue 3).run Tryz.prog w = .ok (.int .i64 0) w := by kernel_rfl
theorem keyTypePair : Tryz.prog.keyType 226 = true := by kernel_rfl
theorem sizeP : ∃ d, Tryz.prog.types.size + 1 = d + 2 := ⟨Tryz.prog.types.size - 1, by have h : (226 : Nat) < Tryz.prog.types.size := Tryz.rowPair; omega⟩
theorem cellsI : Tryz.prog.cellsOf 3 = 1 := by kernel_rfl
theorem cellsPair : Tryz.prog.cellsOf 226 = 2 := by kernel_rfl
theorem i64_wfI {n : Int} (h : I64 n) : (Lit.int .i64 n).wf = true := by
  have h1 : IntKind.i64.min = -9223372036854775808 := rfl
  have h2 : IntKind.i64.max = 9223372036854775807 := rfl
  unfold I64 at h
  simp only [Lit.wf, Bool.and_eq_true, decide_eq_true_eq]
  omega
theorem formedPair (i j : Int) : (pairV i j).formed Tryz.prog 226 = true := by simp [Value.formed, Tryz.underlying226, cellsPair]
theorem key_pair {i j : Int} (hi : I64 i) (hj : I64 j) : keyOf Tryz.prog 226 (pairV i j) = some (.string (keyBytes [.int .i64 i, .int .i64 j])) := by
  obtain ⟨d, hd⟩ := sizeP
  unfold keyOf
  rw [hd, keyTypePair, formedPair]
  simp [Tryz.underlying226, Program.keyLits, Value.cells, cellsPair, Tryz.underlying3, cellsI, i64_wfI hi, i64_wfI hj]

/-- The key of a pair. -/
abbrev keyL (i j : Int) : Lit := .string (keyBytes [.int .i64 i, .int .i64 j])
theorem keyL_inj {i j i' j' : Int} (hi : I64 i) (hj : I64 j) (hi' : I64 i') (hj' : I64 j') (h : keyL i j = keyL i' j') : i = i' ∧ j = j' := by
  have h1 := key_pair hi hj
  have h2 := key_pair hi' hj'
  rw [show (Lit.string (keyBytes [.int .i64 i, .int .i64 j])) = keyL i' j' from h] at h1
  have := lawPair.inj h1 h2
  simp at this
  exact this
theorem keyL_is (i j : Int) : WideAt.IsKeyLit (keyL i j) := trivial
def putD (d : Dist) (i j y : Int) : Dist := fun p q => if p = i ∧ q = j then some y else d p q
theorem raise_put {d : Dist} {i j y : Int} (h : d i j = none ∨ ∃ k, d i j = some k ∧ k < y) : raiseD d i j y = putD d i j y := by
  funext p q
  unfold raiseD putD
  split
  · rcases h with h | ⟨k, h, h2⟩ <;> rw [h] <;> simp [comb, *]
  · rfl
theorem raise_stay {d : Dist} {i j y k : Int} (h : d i j = some k) (h2 : ¬ k < y) : raiseD d i j y = d := by
  funext p q
  unfold raiseD
  split
  · rename_i e
    obtain ⟨rfl, rfl⟩ := e
    rw [h]; simp [comb, h2]
  · rfl
/-- What the map tells of a pair. -/
def Tells (D : DataW Unit) (x : Option Int) (kl : Lit) : Prop := Maps.has D kl = x.isSome ∧ ∀ c, x = some c → D.atKey kl (.lit (.int .i64 0)) = .lit (.int .i64 c)
/-- Block g is a map of distances, of at most n pairs. -/
def OwnsD (w : World) (g n : Nat) (d : Dist) : Prop := ∃ D : DataW Unit, w.ownsMap Tryz.prog 226 (plainElem Tryz.prog 3) g n D ∧ ∀ i j, I64 i → I64 j → Tells D (d i j) (keyL i j)
namespace OwnsD
variable {w w' : World} {g n : Nat} {d : Dist}
theorem made (w : World) : OwnsD (w.alloc (.map #[] 0)) w.heap.size 0 (fun _ _ => none) :=
  ⟨.map [], World.ownsMap_made w _ _ _, fun _ _ _ _ => ⟨rfl, fun _ h => by cases h⟩⟩
theorem mono (h : OwnsD w g n d) {n' : Nat} (hn : n ≤ n') : OwnsD w g n' d := by
  obtain ⟨D, h1, h2⟩ := h
  exact ⟨D, h1.mono hn, h2⟩
theorem lt (h : OwnsD w g n d) : g < w.heap.size := by
  obtain ⟨D, h1, h2⟩ := h
  exact h1.lt
theorem kept (h : OwnsD w g n d) {row : Option Nat} (hg : w.grownBy w' row) (hne : some g ≠ row) : OwnsD w' g n d := by
  obtain ⟨D, h1, h2⟩ := h
  exact ⟨D, h1.kept hg hne, h2⟩
theorem alloc (h : OwnsD w g n d) (o : Obj) : OwnsD (w.alloc o) g n d := h.kept (World.grownBy_alloc w o none) (by simp)
theorem drew (h : OwnsD w g n d) : OwnsD w.drew g n d := h
theorem drewN (h : OwnsD w g n d) (k : Nat) : OwnsD (w.drewN k) g n d := h
theorem setCell (h : OwnsD w g n d) {a : Addr} (ha : g ≠ a.block) (u : Value) : OwnsD (w.setCell a u) g n d := by
  obtain ⟨D, h1, h2⟩ := h
  exact ⟨D, h1.setCell ha u, h2⟩
theorem below (h : OwnsD w g n d) (hb : Below w.heap.size w w') : OwnsD w' g n d := by
  have hlt := h.lt
  obtain ⟨D, ⟨es, clock, h1, h3⟩, h2⟩ := h
  exact ⟨D, ⟨es, clock, (hb.block g hlt).trans h1, h3⟩, h2⟩
end OwnsD

section
variable {w : World} {ops : Array Oper} {rest : List Oper} {o : Oper} {a : Act} {Q : Exit → Act → World → Prop} {g n : Nat} {d : Dist}
/-- v, ok := m[pair], where it stands. -/
theorem wpList_look_some (hg : o.guard = none) (m x : Operand) (t : TypeId) (hop : o.op = Op.lookup t m x true) (ht : Tryz.prog.underlying t = some (.map 226 3)) (hm : a.eval m = .map (some g)) (hown : OwnsD w g n d) (i j c : Int) (hx : a.eval x = pairV i j) (hi : I64 i) (hj : I64 j) (hd : d i j = some c)
    (hK : wpList Tryz.prog ops Q rest (a.put o.dst (.tuple #[.int .i64 c, .bool true])) w) : wpList Tryz.prog ops Q (o :: rest) a w := by
  obtain ⟨D, h1, h2⟩ := hown
  obtain ⟨h3, h4⟩ := h2 i j hi hj
  refine wpList_lookup_own_ok_int w hg m x t hop _ _ .i64 lawPair ht Tryz.underlying3 (zeroI w) g n D hm h1 _ _ hx (key_pair hi hj) ?_
  intro c' hat _
  rw [h4 c hd] at hat
  rw [hd] at h3
  have e : c' = c := by simpa using hat.symm
  rw [show Maps.has D (Lit.string (keyBytes [.int .i64 i, .int .i64 j])) = true from h3, e]
  exact hK
theorem wpList_look_none (hg : o.guard = none) (m x : Operand) (t : TypeId) (hop : o.op = Op.lookup t m x true) (ht : Tryz.prog.underlying t = some (.map 226 3)) (hm : a.eval m = .map (some g)) (hown : OwnsD w g n d) (i j : Int) (hx : a.eval x = pairV i j) (hi : I64 i) (hj : I64 j) (hd : d i j = none)
    (hK : wpList Tryz.prog ops Q rest (a.put o.dst (.tuple #[.int .i64 0, .bool false])) w) : wpList Tryz.prog ops Q (o :: rest) a w := by
  obtain ⟨D, h1, h2⟩ := hown
  obtain ⟨h3, h4⟩ := h2 i j hi hj
  refine wpList_lookup_own_ok_int w hg m x t hop _ _ .i64 lawPair ht Tryz.underlying3 (zeroI w) g n D hm h1 _ _ hx (key_pair hi hj) ?_
  intro c' hat _
  rw [hd] at h3
  have h5 : Maps.has D (Lit.string (keyBytes [.int .i64 i, .int .i64 j])) = false := h3
  rw [Maps.atKey_of_not_has h5] at hat
  have e : c' = 0 := by simpa using hat.symm
  rw [h5, e]
  exact hK
/-- m[pair]. -/
theorem wpList_look_plain (hg : o.guard = none) (m x : Operand) (t : TypeId) (hop : o.op = Op.lookup t m x false) (ht : Tryz.prog.underlying t = some (.map 226 3)) (hm : a.eval m = .map (some g)) (hown : OwnsD w g n d) (i j c : Int) (hx : a.eval x = pairV i j) (hi : I64 i) (hj : I64 j) (hd : (d i j).getD 0 = c)
    (hK : wpList Tryz.prog ops Q rest (a.put o.dst (.int .i64 c)) w) : wpList Tryz.prog ops Q (o :: rest) a w := by
  obtain ⟨D, h1, h2⟩ := hown
  obtain ⟨h3, h4⟩ := h2 i j hi hj
  refine wpList_lookup_own_int w hg m x t hop _ _ .i64 lawPair ht Tryz.underlying3 (zeroI w) g n D hm h1 _ _ hx (key_pair hi hj) ?_
  intro c' hat _
  have e : c' = c := by
    cases hv : d i j with
    | none =>
      rw [hv] at h3 hd
      have h5 : Maps.has D (Lit.string (keyBytes [.int .i64 i, .int .i64 j])) = false := h3
      rw [Maps.atKey_of_not_has h5] at hat
      have : c' = 0 := by simpa using hat.symm
      rw [this, ← hd]; rfl
    | some y =>
      rw [h4 y hv] at hat
      rw [hv] at hd
      have : y = c' := by simpa using hat
      rw [← this, ← hd]; rfl
  rw [e]
  exact hK
/-- m[pair] = y. -/
theorem wpList_storeD (hg : o.guard = none) (m x v : Operand) (t : TypeId) (hop : o.op = Op.mapUpdate t m x v) (ht : Tryz.prog.underlying t = some (.map 226 3)) (hm : a.eval m = .map (some g)) (hown : OwnsD w g n d) (hn : n < 1000000000) (i j y : Int) (hx : a.eval x = pairV i j) (hv : a.eval v = .int .i64 y) (hi : I64 i) (hj : I64 j) (hy : I64 y)
    (hK : ∀ w', OwnsD w' g (n + 1) (putD d i j y) → w.grownBy w' (some g) → wpList Tryz.prog ops Q rest (a.put o.dst undef) w') : wpList Tryz.prog ops Q (o :: rest) a w := by
  obtain ⟨D, h1, h2⟩ := hown
  refine wpList_mapUpdate_own w hg m x v t hop _ _ lawPair ht _ g n D hm h1 (by unfold maxLen; omega) _ _ _ hx hv (key_pair hi hj) _ [] (plainElem_int Tryz.underlying3 (i64_wfI hy)) ?_
  intro w' h3 h4
  refine hK w' ⟨_, h3, fun p q hp hq => ?_⟩ h4
  show Tells _ (if p = i ∧ q = j then some y else d p q) _
  by_cases e : p = i ∧ q = j
  · obtain ⟨rfl, rfl⟩ := e
    rw [if_pos ⟨rfl, rfl⟩]
    refine ⟨Maps.has_put_same h1.isMap (keyL_is _ _) _, fun c hc => ?_⟩
    cases hc
    exact Maps.atKey_put_same h1.isMap (keyL_is _ _) _ _
  · rw [if_neg e]
    have hne : keyL p q ≠ keyL i j := fun h => e (keyL_inj hp hq hi hj h)
    obtain ⟨h5, h6⟩ := h2 p q hp hq
    refine ⟨?_, fun c hc => ?_⟩
    · rw [Maps.has_put_other hne]; exact h5
    · rw [Maps.atKey_put_other hne]; exact h6 c hc
end
end Go.Proofs.YtfeodppdmbideaaGreatDoor
