/- The document's greater of two levels, variable by variable, is the program's. -/
import Derived.Test.YtdpannjnhhjicaaLUp
namespace Go.Proofs.Ytdpannjnhhjicaa

def mostA (v : Int) (a : List Atom2) (m : Int) : Int := a.foldl (fun m x => if x.1 = v then x.2 else m) m
def mostB (v : Int) (b : List Atom2) (m : Int) : Int := b.foldl (fun m x => if x.1 = v ∧ m < x.2 then x.2 else m) m
def mostAB (a b : List Atom2) (v : Int) : Int := mostB v b (mostA v a (-1))
def item (a b : List Atom2) (v : Nat) : List Atom2 := if 0 ≤ mostAB a b v then [((v : Int), mostAB a b v)] else []
def rmaxK (a b : List Atom2) (k : Nat) : List Atom2 := (List.range k).flatMap (item a b)
theorem rmaxK_succ (a b : List Atom2) (k : Nat) : rmaxK a b (k + 1) = rmaxK a b k ++ item a b k := by unfold rmaxK; rw [List.range_succ, List.flatMap_append]; simp
theorem mostA_none {v : Int} : ∀ {a : List Atom2} {m : Int}, (∀ x ∈ a, x.1 ≠ v) → mostA v a m = m := by
  intro a
  induction a with
  | nil => intro m _; rfl
  | cons x r ih =>
    intro m h
    unfold mostA
    rw [List.foldl_cons, if_neg (h x (by simp))]
    exact ih (fun y hy => h y (by simp [hy]))
theorem mostB_none {v : Int} : ∀ {a : List Atom2} {m : Int}, (∀ x ∈ a, x.1 ≠ v) → mostB v a m = m := by
  intro a
  induction a with
  | nil => intro m _; rfl
  | cons x r ih =>
    intro m h
    unfold mostB
    rw [List.foldl_cons, if_neg (fun hh => h x (by simp) hh.1)]
    exact ih (fun y hy => h y (by simp [hy]))
theorem mostA_cons (v : Int) (x : Atom2) (a : List Atom2) (m : Int) : mostA v (x :: a) m = mostA v a (if x.1 = v then x.2 else m) := rfl
theorem mostB_cons (v : Int) (x : Atom2) (a : List Atom2) (m : Int) : mostB v (x :: a) m = mostB v a (if x.1 = v ∧ m < x.2 then x.2 else m) := rfl
theorem mostA_other {v : Int} {x : Atom2} (h : x.1 ≠ v) (a : List Atom2) (m : Int) : mostA v (x :: a) m = mostA v a m := by rw [mostA_cons, if_neg h]
theorem mostB_other {v : Int} {x : Atom2} (h : x.1 ≠ v) (a : List Atom2) (m : Int) : mostB v (x :: a) m = mostB v a m := by rw [mostB_cons, if_neg (fun hh => h hh.1)]
theorem rightFrom_cons {v least : Int} {x : Atom2} {r : List Atom2} (h : rightFrom v least (x :: r) = true) : (least ≤ x.1 ∧ x.1 ≤ v) ∧ (0 ≤ x.2 ∧ x.2 ≤ 1000) ∧ rightFrom v (x.1 + 1) r = true := by
  simp only [rightFrom, withinB, Bool.and_eq_true, decide_eq_true_eq] at h
  exact ⟨h.1.1, h.1.2, h.2⟩
theorem rightFrom_up {v least : Int} {r : List Atom2} (h : rightFrom v least r = true) (hn : ∀ x ∈ r, x.1 ≠ least) : rightFrom v (least + 1) r = true := by
  cases r with
  | nil => rfl
  | cons x r =>
    obtain ⟨h1, h2, h3⟩ := rightFrom_cons h
    have := hn x (by simp)
    simp only [rightFrom, withinB, Bool.and_eq_true, decide_eq_true_eq]
    exact ⟨⟨by omega, h2⟩, h3⟩
theorem flat_congr {α β : Type} {f g : α → List β} : ∀ {l : List α}, (∀ x ∈ l, f x = g x) → l.flatMap f = l.flatMap g
  | [], _ => rfl
  | x :: r, h => by rw [List.flatMap_cons, List.flatMap_cons, h x (by simp), flat_congr fun y hy => h y (by simp [hy])]
theorem after_ne {v s : Int} {r : List Atom2} (h : rightFrom v (s + 1) r = true) : ∀ x ∈ r, x.1 ≠ s := fun x hx => by have := rightFrom_in h x hx; omega
theorem max_from : ∀ (c s : Nat) (a b : List Atom2), s + c = 17 → rightFrom 16 s a = true → rightFrom 16 s b = true → (List.range' s c).flatMap (item a b) = mergeS a b := by
  intro c
  induction c with
  | zero =>
    intro s a b hs ha hb
    have ea : a = [] := by
      cases a with
      | nil => rfl
      | cons x r => have := rightFrom_cons ha; omega
    have eb : b = [] := by
      cases b with
      | nil => rfl
      | cons x r => have := rightFrom_cons hb; omega
    subst ea eb
    simp [mergeS]
  | succ c ih =>
    intro s a b hs ha hb
    rw [List.range'_succ, List.flatMap_cons]
    by_cases h1 : ∃ x a', a = x :: a' ∧ x.1 = s
    · obtain ⟨x, a', rfl, hx⟩ := h1
      obtain ⟨_, hx2, ha'⟩ := rightFrom_cons ha
      rw [hx] at ha'
      have hA : mostA s (x :: a') (-1) = x.2 := by rw [mostA_cons, if_pos hx, mostA_none (after_ne ha')]
      by_cases h2 : ∃ y b', b = y :: b' ∧ y.1 = s
      · obtain ⟨y, b', rfl, hy⟩ := h2
        obtain ⟨_, hy2, hb'⟩ := rightFrom_cons hb
        rw [hy] at hb'
        have hM : mostAB (x :: a') (y :: b') s = max x.2 y.2 := by
          unfold mostAB
          rw [hA, mostB_cons, mostB_none (after_ne hb')]
          split <;> omega
        have hi : item (x :: a') (y :: b') s = [((s : Int), max x.2 y.2)] := by unfold item; rw [hM, if_pos (by omega)]
        rw [hi, merge_eq (by omega), hx, ← ih (s + 1) a' b' (by omega) (by simpa using ha') (by simpa using hb')]
        rw [List.singleton_append]
        congr 1
        refine flat_congr fun v hv => ?_
        have hvs : (s : Int) ≠ v := by have := (List.mem_range'_1.1 hv).1; omega
        unfold item mostAB
        rw [mostA_other (by omega), mostB_other (by omega)]
      · have hb' : rightFrom 16 ((s : Int) + 1) b = true := rightFrom_up hb (fun y hy => by
          cases b with
          | nil => cases hy
          | cons z r =>
            have hz : z.1 ≠ s := fun e => h2 ⟨z, r, rfl, e⟩
            obtain ⟨h3, _, h4⟩ := rightFrom_cons hb
            rcases List.mem_cons.1 hy with rfl | hy
            · exact hz
            · have := rightFrom_in h4 y hy; omega)
        have hM : mostAB (x :: a') b s = x.2 := by unfold mostAB; rw [hA, mostB_none (after_ne hb')]
        have hi : item (x :: a') b s = [((s : Int), x.2)] := by unfold item; rw [hM, if_pos (by omega)]
        have hm : mergeS (x :: a') b = x :: mergeS a' b := by
          cases b with
          | nil => rw [mergeS_nil, mergeS_nil]
          | cons z r => exact merge_lo (by have := (rightFrom_cons hb').1; omega)
        rw [hi, hm, ← ih (s + 1) a' b (by omega) (by simpa using ha') (by simpa using hb'), List.singleton_append, ← hx]
        congr 1
        refine flat_congr fun v hv => ?_
        have hvs : (s : Int) ≠ v := by have := (List.mem_range'_1.1 hv).1; omega
        unfold item mostAB
        rw [mostA_other (by omega)]
    · have ha' : rightFrom 16 ((s : Int) + 1) a = true := rightFrom_up ha (fun y hy => by
        cases a with
        | nil => cases hy
        | cons z r =>
          have hz : z.1 ≠ s := fun e => h1 ⟨z, r, rfl, e⟩
          obtain ⟨h3, _, h4⟩ := rightFrom_cons ha
          rcases List.mem_cons.1 hy with rfl | hy
          · exact hz
          · have := rightFrom_in h4 y hy; omega)
      have hA : mostA s a (-1) = -1 := mostA_none (after_ne ha')
      by_cases h2 : ∃ y b', b = y :: b' ∧ y.1 = s
      · obtain ⟨y, b', rfl, hy⟩ := h2
        obtain ⟨_, hy2, hb'⟩ := rightFrom_cons hb
        rw [hy] at hb'
        have hM : mostAB a (y :: b') s = y.2 := by
          unfold mostAB
          rw [hA, mostB_cons, mostB_none (after_ne hb'), if_pos ⟨hy, by omega⟩]
        have hi : item a (y :: b') s = [((s : Int), y.2)] := by unfold item; rw [hM, if_pos (by omega)]
        have hm : mergeS a (y :: b') = y :: mergeS a b' := by
          cases a with
          | nil => simp [mergeS]
          | cons z r => exact merge_hi (by have := (rightFrom_cons ha').1; omega)
        rw [hi, hm, ← ih (s + 1) a b' (by omega) (by simpa using ha') (by simpa using hb'), List.singleton_append, ← hy]
        congr 1
        refine flat_congr fun v hv => ?_
        have hvs : (s : Int) ≠ v := by have := (List.mem_range'_1.1 hv).1; omega
        unfold item mostAB
        rw [mostB_other (by omega)]
      · have hb' : rightFrom 16 ((s : Int) + 1) b = true := rightFrom_up hb (fun y hy => by
          cases b with
          | nil => cases hy
          | cons z r =>
            have hz : z.1 ≠ s := fun e => h2 ⟨z, r, rfl, e⟩
            obtain ⟨h3, _, h4⟩ := rightFrom_cons hb
            rcases List.mem_cons.1 hy with rfl | hy
            · exact hz
            · have := rightFrom_in h4 y hy; omega)
        have hM : mostAB a b s = -1 := by unfold mostAB; rw [hA, mostB_none (after_ne hb')]
        have hi : item a b s = [] := by unfold item; rw [hM, if_neg (by omega)]
        rw [hi, List.nil_append]
        exact ih (s + 1) a b (by omega) (by simpa using ha') (by simpa using hb')
theorem rmax_merge {a b : List Atom2} (ha : rightS 16 a = true) (hb : rightS 16 b = true) : rmaxK a b 17 = mergeS a b := by
  simp only [rightS, Bool.and_eq_true] at ha hb
  have := max_from 17 0 a b (by omega) (by simpa using ha.2) (by simpa using hb.2)
  rw [← this]
  unfold rmaxK
  rw [List.range_eq_range']
theorem item_len (a b : List Atom2) (v : Nat) : (item a b v).length ≤ 1 := by unfold item; split <;> simp
theorem rmaxK_len (a b : List Atom2) (k : Nat) : (rmaxK a b k).length ≤ k := by
  induction k with
  | zero => simp [rmaxK]
  | succ k ih => rw [rmaxK_succ, List.length_append]; have := item_len a b k; omega
end Go.Proofs.Ytdpannjnhhjicaa
