/- What holds of values that meet orders: levels, gaps (lists and numbers alone). -/
import Derived.Test.YtdpannjnhhjicaaLRef7
namespace Go.Proofs.Ytdpannjnhhjicaa

def soundB (v : Int) (E : List Ord3) (vals : List Int) : Bool := vals.all (fun x => decide (0 ≤ x) && decide (x ≤ 1000000)) && decide (E.length ≤ 64) && decide (vals.length ≤ 16) && decide (errS v E = 0) && meetsS vals E
theorem valOf_small {vals : List Int} (h : vals.all (fun x => decide (0 ≤ x) && decide (x ≤ 1000000)) = true) (v : Int) : 0 ≤ valOf vals v ∧ valOf vals v ≤ 1000000 := by
  unfold valOf
  split
  · rename_i h1
    rw [List.getD_eq_getElem?_getD, List.getElem?_eq_getElem (by omega), Option.getD_some]
    rw [List.all_eq_true] at h
    have := h _ (List.getElem_mem (show (v - 1).toNat < vals.length by omega))
    simp only [Bool.and_eq_true, decide_eq_true_eq] at this
    exact this
  · omega
theorem sumS_small {vals : List Int} (h : vals.all (fun x => decide (0 ≤ x) && decide (x ≤ 1000000)) = true) (v : Int) {a : Int} (h1 : -1000 ≤ a) (h2 : a ≤ 1000) : sumS vals v a = valOf vals v + a := by
  have := valOf_small h v
  exact IntWalk.wrap64_in _ ⟨by omega, by omega⟩
theorem meets_meet {n : Nat} {E : List Ord3} {vals : List Int} (h : vals.all (fun x => decide (0 ≤ x) && decide (x ≤ 1000000)) = true) (hE : RightE n E) (hm : meetsS vals E = true) : Meet vals E := by
  unfold meetsS at hm
  simp only [Bool.and_eq_true] at hm
  refine ⟨fun x hx => ?_, fun o ho => ?_⟩
  · rw [List.all_eq_true] at h
    have := h x hx
    simp only [Bool.and_eq_true, decide_eq_true_eq] at this
    exact this.1
  · have h2 := List.all_eq_true.1 hm.2 o ho
    have h3 := (hE o ho).2.2
    unfold meetsO at h2
    rw [decide_eq_true_eq, sumS_small h _ h3.1 h3.2, sumS_small h _ (by omega) (by omega)] at h2
    omega
/-- All that sound tells. -/
theorem sound_tells {v : Int} {E : List Ord3} {vals : List Int} (h : soundB v E vals = true) : vals.all (fun x => decide (0 ≤ x) && decide (x ≤ 1000000)) = true ∧ ∃ (n : Nat) (d : Dist), v = n ∧ distS v E = some d ∧ IsDist n E d ∧ RightE n E ∧ Meet vals E := by
  unfold soundB at h
  simp only [Bool.and_eq_true, decide_eq_true_eq] at h
  obtain ⟨⟨⟨⟨h1, h2⟩, h3⟩, h4⟩, h5⟩ := h
  obtain ⟨d, hd⟩ := err_zero h4
  obtain ⟨n, rfl⟩ := dist_nat hd
  obtain ⟨hf, _, _, hE⟩ := dist_some hd
  obtain ⟨_, hD, _⟩ := (err_right hf).1 d hd
  have hall : vals.all (fun x => decide (0 ≤ x) && decide (x ≤ 1000000)) = true := h1
  exact ⟨hall, n, d, rfl, hd, hD, hE, meets_meet hall hE h5⟩
theorem mostS_ge {vals : List Int} : ∀ (l : List Atom2) (m : Int), m ≤ mostS vals m l ∧ ∀ x ∈ l, sumS vals x.1 x.2 ≤ mostS vals m l := by
  intro l
  induction l with
  | nil => intro m; exact ⟨Int.le_refl _, fun x hx => by cases hx⟩
  | cons y r ih =>
    intro m
    have h := ih (max m (sumS vals y.1 y.2))
    have e : mostS vals m (y :: r) = mostS vals (max m (sumS vals y.1 y.2)) r := rfl
    rw [e]
    refine ⟨by omega, fun x hx => ?_⟩
    rcases List.mem_cons.1 hx with rfl | hx
    · omega
    · exact h.2 x hx
theorem mostS_le {vals : List Int} {b : Int} : ∀ (l : List Atom2) (m : Int), m ≤ b → (∀ x ∈ l, sumS vals x.1 x.2 ≤ b) → mostS vals m l ≤ b := by
  intro l
  induction l with
  | nil => intro m h _; exact h
  | cons y r ih =>
    intro m h hl
    have e : mostS vals m (y :: r) = mostS vals (max m (sumS vals y.1 y.2)) r := rfl
    rw [e]
    have := hl y (by simp)
    exact ih _ (by omega) (fun x hx => hl x (by simp [hx]))
theorem value_ge {vals : List Int} {l : List Atom2} : ∀ x ∈ l, sumS vals x.1 x.2 ≤ valueS vals l := by
  intro x hx
  cases l with
  | nil => cases hx
  | cons y r =>
    obtain ⟨h1, h2⟩ := mostS_ge r (sumS vals y.1 y.2) (vals := vals)
    rcases List.mem_cons.1 hx with rfl | hx
    · exact h1
    · exact h2 x hx
theorem value_le {vals : List Int} {l : List Atom2} {b : Int} (hl : l ≠ []) (h : ∀ x ∈ l, sumS vals x.1 x.2 ≤ b) : valueS vals l ≤ b := by
  cases l with
  | nil => exact absurd rfl hl
  | cons y r => exact mostS_le r _ (h y (by simp)) (fun x hx => h x (by simp [hx]))
/-- A level that is under another one has no greater value. -/
theorem under_value {v : Int} {E : List Ord3} {vals : List Int} {a b : List Atom2} (hs : soundB v E vals = true) (hu : underS v E a b = true) : valueS vals a ≤ valueS vals b := by
  obtain ⟨hall, n, d, rfl, hd, hD, hE, hM⟩ := sound_tells hs
  unfold underS at hu
  rw [hd] at hu
  simp only [Bool.and_eq_true] at hu
  obtain ⟨⟨ha, hb⟩, hu⟩ := hu
  have hin := right_in ha
  have hib := right_in hb
  refine value_le (fun e => by have := right_pos ha; rw [e] at this; simp at this) fun x hx => ?_
  have h1 := List.all_eq_true.1 hu x hx
  obtain ⟨y, hy, h2⟩ := List.any_eq_true.1 h1
  have hx2 := (hin x hx).2
  have hy2 := (hib y hy).2
  refine Int.le_trans ?_ (value_ge y hy)
  rw [sumS_small hall _ (by omega) (by omega), sumS_small hall _ (by omega) (by omega)]
  unfold underA at h2
  cases hk : d x.1 y.1 with
  | none => rw [hk] at h2; cases h2
  | some g =>
    rw [hk] at h2
    simp only [decide_eq_true_eq] at h2
    rw [IntWalk.wrap64_in _ ⟨by omega, by omega⟩] at h2
    have := hM.walk (hD.sound _ _ _ hk)
    omega
/-- A gap is kept by values that meet the orders. -/
theorem gap_value {v : Int} {E : List Ord3} {vals : List Int} {lo hi g : Int} (hs : soundB v E vals = true) (hg : gapS v E lo hi = some g) : valOf vals lo + g ≤ valOf vals hi ∧ -200000000 ≤ g ∧ g ≤ 200000000 ∧ 0 ≤ valOf vals lo ∧ valOf vals lo ≤ 1000000 := by
  obtain ⟨hall, n, d, rfl, hd, hD, hE, hM⟩ := sound_tells hs
  simp only [gapS, hd, Option.bind_some] at hg
  have h1 := hM.walk (hD.sound _ _ _ hg)
  have h2 := valOf_small hall lo
  have h3 := valOf_small hall hi
  obtain ⟨hf, hn, hl, _⟩ := dist_some hd
  have hr : reckD n (toldD n E) (n + 1) = some d := by rw [← hd]; simp [distS, hf]
  have hlow : -200000000 ≤ g := (((check_iff hE hn hl).1 d hr).2.1 _ _ _ hg).1
  exact ⟨h1, hlow, by omega, h2.1, h2.2⟩
end Go.Proofs.Ytdpannjnhhjicaa
