/- Forms that begin bytes, bytes that begin forms. -/
import Derived.Test.YtbpbokdomdmclaaOLeb
namespace Go.Proofs.Ytbpbokdomdmclaa

/-- The number that bytes tell, seven bits each. -/
def val : List Nat → Nat
  | [] => 0
  | x :: xs => x % 128 + 128 * val xs
theorem val_append : ∀ (l r : List Nat), val (l ++ r) = val l + 128 ^ l.length * val r
  | [], r => by simp [val]
  | x :: xs, r => by
    rw [List.cons_append, val, val, val_append xs r, List.length_cons, Nat.pow_succ, Nat.mul_add, ← Nat.mul_assoc, Nat.mul_comm (128 ^ xs.length) 128]
    omega
theorem val_lt : ∀ (l : List Nat), val l < 128 ^ l.length
  | [] => by simp [val]
  | x :: xs => by
    have := val_lt xs
    rw [val, List.length_cons, Nat.pow_succ]
    omega
theorem val_prefix {l r : List Nat} (h : l <+: r) : val l ≤ val r := by
  obtain ⟨t, rfl⟩ := h
  rw [val_append]
  omega
/-- The form of a number: all bytes but the last one go on. -/
def IsForm : List Nat → Prop
  | [] => False
  | [x] => x < 128
  | x :: y :: r => (128 ≤ x ∧ x < 256) ∧ IsForm (y :: r) ∧ (y :: r) ≠ [0]
theorem IsForm.pos {l : List Nat} (h : IsForm l) (h0 : l ≠ [0]) : 0 < val l := by
  induction l with
  | nil => exact h.elim
  | cons x r ih =>
    cases r with
    | nil =>
      have h1 : x < 128 := h
      have h2 : x ≠ 0 := fun e => h0 (by rw [e])
      simp only [val]
      omega
    | cons y r =>
      have := ih h.2.1 h.2.2
      rw [val]
      omega
theorem leb_val {l : List Nat} (h : IsForm l) : leb (val l) = l := by
  induction l with
  | nil => exact h.elim
  | cons x r ih =>
    cases r with
    | nil =>
      have h1 : x < 128 := h
      simp only [val]
      rw [leb_small (by omega), show x % 128 + 128 * 0 = x by omega]
    | cons y r =>
      have h1 := h.1
      have h2 := h.2.1.pos h.2.2
      have h3 := ih h.2.1
      rw [val]
      generalize val (y :: r) = v at *
      rw [leb_big (by omega), show (x % 128 + 128 * v) % 128 + 128 = x by omega, show (x % 128 + 128 * v) / 128 = v by omega, h3]
theorem leb_ne_zero {n : Nat} (h : 0 < n) : leb n ≠ [0] := by
  by_cases h1 : n < 128
  · rw [leb_small h1]
    intro e
    simp at e
    omega
  · rw [leb_big h1]
    intro e
    simp at e
theorem leb_form : ∀ (n : Nat), IsForm (leb n) := by
  intro n
  induction n using Nat.strongRecOn with
  | ind n ih =>
    by_cases h : n < 128
    · rw [leb_small h]; exact h
    · rw [leb_big h]
      have h1 := ih (n / 128) (by omega)
      have h2 := leb_ne_zero (n := n / 128) (by omega)
      cases e : leb (n / 128) with
      | nil => rw [e] at h1; exact h1.elim
      | cons y r =>
        rw [e] at h1 h2
        exact ⟨by omega, h1, h2⟩
theorem val_leb (n : Nat) : val (leb n) = n := by
  induction n using Nat.strongRecOn with
  | ind n ih =>
    by_cases h : n < 128
    · rw [leb_small h]; simp only [val]; omega
    · rw [leb_big h, val, ih (n / 128) (by omega)]
      omega
theorem leb_inj {n m : Nat} (h : leb n = leb m) : n = m := by rw [← val_leb n, h, val_leb]
/-- A form goes on at every byte but its last one. -/
theorem IsForm.cut {l p r : List Nat} (h : IsForm l) (e : l = p ++ r) (hr : r ≠ []) : ∀ x ∈ p, 128 ≤ x := by
  induction p generalizing l with
  | nil => simp
  | cons y p ih =>
    subst e
    cases hp : p ++ r with
    | nil => simp at hp; exact absurd hp.2 hr
    | cons z q =>
      rw [List.cons_append, hp] at h
      intro x hx
      rcases List.mem_cons.1 hx with rfl | hx
      · exact h.1.1
      · exact ih h.2.1 hp.symm x hx
theorem IsForm.end_ {p : List Nat} {x : Nat} (h : IsForm (p ++ [x])) : x < 128 ∧ (p ≠ [] → x ≠ 0) := by
  induction p with
  | nil => exact ⟨h, fun h => absurd rfl h⟩
  | cons y p ih =>
    cases hp : p ++ [x] with
    | nil => simp at hp
    | cons z q =>
      rw [List.cons_append, hp] at h
      have h1 := h.2.1
      have h2 := h.2.2
      rw [← hp] at h1 h2
      refine ⟨(ih h1).1, fun _ => ?_⟩
      cases p with
      | nil => intro e; subst e; exact h2 rfl
      | cons => exact (ih h1).2 (by simp)
theorem IsForm.ends {l : List Nat} (h : IsForm l) : ∃ p x, l = p ++ [x] ∧ x < 128 ∧ (p ≠ [] → x ≠ 0) ∧ ∀ y ∈ p, 128 ≤ y := by
  have hne : l ≠ [] := by intro e; subst e; exact h
  have e := (List.dropLast_concat_getLast hne).symm
  refine ⟨_, _, e, ?_⟩
  have h1 := h
  rw [e] at h1
  exact ⟨h1.end_.1, h1.end_.2, h.cut e (by simp)⟩
theorem isForm_of {p : List Nat} {x : Nat} (hx : x < 128) (h0 : p ≠ [] → x ≠ 0) (hp : ∀ y ∈ p, 128 ≤ y ∧ y < 256) : IsForm (p ++ [x]) := by
  induction p with
  | nil => exact hx
  | cons y p ih =>
    have h1 := ih (fun _ => h0 (by simp)) (fun z hz => hp z (List.mem_cons_of_mem _ hz))
    cases hq : p ++ [x] with
    | nil => simp at hq
    | cons z q =>
      rw [List.cons_append, hq]
      rw [hq] at h1
      refine ⟨hp y List.mem_cons_self, h1, ?_⟩
      rw [← hq]
      intro e
      cases p with
      | nil => simp at e; exact h0 (by simp) e
      | cons u p => simp at e
/-- Bytes: numbers below 256. -/
def Bytes (b : List Nat) : Prop := ∀ x ∈ b, x < 256
/-- The form of a number up to most begins these bytes. -/
def Found (b : List Nat) (most n : Nat) : Prop := n ≤ most ∧ leb n <+: b
def Cut (b : List Nat) (most n : Nat) : Prop := n ≤ most ∧ b <+: leb n
/-- Where the first k bytes go on, whatever form begins the bytes or is begun by them holds one byte more. -/
theorem touch {b : List Nat} {k n : Nat} (hk : ∀ j (h : j < b.length), j < k → 128 ≤ b[j]) (h : leb n <+: b ∨ b <+: leb n) : b.take (k + 1) <+: leb n := by
  rcases h with h | h
  · obtain ⟨p, x, e, hx, _, _⟩ := (leb_form n).ends
    obtain ⟨t, ht⟩ := h
    have hlen : k < (leb n).length := by
      refine Nat.lt_of_not_le fun hle => ?_
      have hpl : p.length < b.length := by rw [← ht, e]; simp
      have h1 := hk p.length hpl (by rw [e] at hle; simp at hle; omega)
      have h2 : b[p.length]? = some x := by rw [← ht, e]; simp
      rw [List.getElem?_eq_getElem hpl] at h2
      injection h2 with h2
      omega
    rw [← ht, List.take_append_of_le_length (by omega)]
    exact List.take_prefix _ _
  · exact (List.take_prefix _ _).trans h
/-- A byte that does not go on ends it. -/
theorem touch_end {b : List Nat} {k n : Nat} (hk : ∀ j (h : j < b.length), j < k → 128 ≤ b[j]) (hl : k < b.length) (hx : b[k] < 128) (h : leb n <+: b ∨ b <+: leb n) : leb n = b.take (k + 1) := by
  obtain ⟨t, ht⟩ := touch hk h
  cases t with
  | nil => rw [← ht, List.append_nil]
  | cons y t =>
    have h1 := (leb_form n).cut ht.symm (by simp) b[k] (by rw [List.take_succ_eq_append_getElem hl]; exact List.mem_append_right _ (List.mem_singleton_self _))
    omega
theorem touch_more {b : List Nat} {k n : Nat} (hk : ∀ j (h : j < b.length), j < k → 128 ≤ b[j]) (hl : k ≤ b.length) (h0 : 0 < k) (h : leb n <+: b ∨ b <+: leb n) : k < (leb n).length ∧ val (b.take k) + 128 ^ k ≤ n := by
  have h1 := touch hk h
  have h2 : b.take k <+: leb n := List.IsPrefix.trans ⟨(b.drop k).take 1, by rw [← List.take_add]⟩ h1
  obtain ⟨t, ht⟩ := h2
  have hlen : (b.take k).length = k := by rw [List.length_take]; omega
  have hne : t ≠ [] := by
    rintro rfl
    rw [List.append_nil] at ht
    obtain ⟨p, x, e, hx, _, _⟩ := (leb_form n).ends
    have hp : p.length + 1 = k := by rw [← hlen, ht, e]; simp
    have h3 : (b.take k)[p.length]? = some x := by rw [ht, e]; simp
    rw [List.getElem?_take, if_pos (by omega), List.getElem?_eq_getElem (by omega)] at h3
    injection h3 with h3
    have := hk p.length (by omega) (by omega)
    omega
  have hv : 0 < val t := by
    obtain ⟨p, x, e, hx, h0', hp⟩ := (leb_form n).ends
    rw [e] at ht
    have : t = (p ++ [x]).drop k := by rw [← ht, List.drop_append, hlen, Nat.sub_self, List.drop_zero, List.drop_of_length_le (by omega), List.nil_append]
    rw [List.drop_append] at this
    have hpk : k ≤ p.length := by
      have h5 := congrArg List.length ht
      have h6 := List.length_pos_iff.2 hne
      rw [List.length_append, List.length_append, hlen] at h5
      simp at h5
      omega
    rw [show k - p.length = 0 by omega, List.drop_zero] at this
    rw [this, val_append]
    have h7 := h0' (by intro e; subst e; simp at hpk; omega)
    have h8 : val [x] = x := by simp only [val]; omega
    rw [h8]
    have := Nat.pow_pos (n := (List.drop k p).length) (show 0 < 128 by decide)
    have := Nat.mul_pos this (show 0 < x by omega)
    omega
  refine ⟨?_, ?_⟩
  · rw [← ht, List.length_append, hlen]
    have := List.length_pos_iff.2 hne
    omega
  · rw [← val_leb n, ← ht, val_append, hlen]
    have := Nat.mul_le_mul_left (128 ^ k) hv
    omega
/-- Bytes that all go on begin a form. -/
theorem begun {b : List Nat} (hb : ∀ x ∈ b, 128 ≤ x ∧ x < 256) : leb (val b + 128 ^ b.length) = b ++ [1] := by
  have h1 := isForm_of (p := b) (x := 1) (by decide) (fun _ => by decide) hb
  have h2 := leb_val h1
  rw [val_append, show val [1] = 1 from rfl, Nat.mul_one] at h2
  exact h2

open Classical in
/-- What a read tells: the number, its bytes, the error. -/
noncomputable def scan (b : List Nat) (most : Nat) : Nat × Nat × Nat :=
  if h : ∃ n, Found b most n then (h.choose, (leb h.choose).length, 0) else if ∃ n, Cut b most n then (0, 0, 4) else (0, 0, 3)
theorem found_one {b : List Nat} {most n m : Nat} (h : Found b most n) (k : Found b most m) : n = m := by
  obtain ⟨p, x, e, hx, _, hp⟩ := (leb_form n).ends
  have hk : ∀ j (h : j < b.length), j < p.length → 128 ≤ b[j] := fun j hj hjp => by
    obtain ⟨t, ht⟩ := h.2
    refine hp _ ?_
    have h1 : b[j]? = some p[j] := by rw [← ht, e, List.append_assoc, List.getElem?_append_left hjp, List.getElem?_eq_getElem hjp]
    rw [List.getElem?_eq_getElem hj] at h1
    injection h1 with h1
    rw [h1]
    exact List.getElem_mem _
  have hl : p.length < b.length := by
    obtain ⟨t, ht⟩ := h.2
    rw [← ht, e]
    simp
  have hx' : b[p.length] < 128 := by
    obtain ⟨t, ht⟩ := h.2
    have h2 : b[p.length]? = some x := by rw [← ht, e]; simp
    rw [List.getElem?_eq_getElem hl] at h2
    injection h2 with h2
    omega
  exact leb_inj ((touch_end hk hl hx' (.inl h.2)).trans (touch_end hk hl hx' (.inl k.2)).symm)
theorem scan_found {b : List Nat} {most n : Nat} (h : Found b most n) : scan b most = (n, (leb n).length, 0) := by
  have hx : ∃ n, Found b most n := ⟨n, h⟩
  unfold scan
  rw [dif_pos hx, found_one hx.choose_spec h]
theorem scan_cut {b : List Nat} {most : Nat} (h : ¬ ∃ n, Found b most n) (k : ∃ n, Cut b most n) : scan b most = (0, 0, 4) := by
  unfold scan
  rw [dif_neg h, if_pos k]
theorem scan_form {b : List Nat} {most : Nat} (h : ¬ ∃ n, Found b most n) (k : ¬ ∃ n, Cut b most n) : scan b most = (0, 0, 3) := by
  unfold scan
  rw [dif_neg h, if_neg k]
theorem scan_none {b : List Nat} {most : Nat} (h : ∀ n, n ≤ most → leb n <+: b ∨ b <+: leb n → False) : scan b most = (0, 0, 3) :=
  scan_form (fun ⟨n, hn⟩ => h n hn.1 (.inl hn.2)) (fun ⟨n, hn⟩ => h n hn.1 (.inr hn.2))
/-- The ways out of a read, by the bytes that go on. -/
theorem scan_great {b : List Nat} {most k : Nat} (hk : ∀ j (h : j < b.length), j < k → 128 ≤ b[j]) (h : most < val (b.take (k + 1))) : scan b most = (0, 0, 3) :=
  scan_none fun n hn ht => by
    have h1 := val_prefix (touch hk ht)
    rw [val_leb] at h1
    exact Nat.lt_irrefl _ (Nat.lt_of_lt_of_le (Nat.lt_of_lt_of_le h h1) hn)
theorem scan_bad {b : List Nat} {most k : Nat} (hk : ∀ j (h : j < b.length), j < k → 128 ≤ b[j]) (hl : k < b.length) (hx : b[k] = 0) (h0 : 0 < k) : scan b most = (0, 0, 3) :=
  scan_none fun n _ ht => by
    have e := touch_end hk hl (Nat.lt_of_le_of_lt (Nat.le_of_eq hx) (by decide)) ht
    rw [List.take_succ_eq_append_getElem hl] at e
    have h1 := leb_form n
    rw [e] at h1
    refine h1.end_.2 ?_ hx
    intro e
    have h2 := congrArg List.length e
    rw [List.length_take, List.length_nil] at h2
    omega
theorem scan_ok {b : List Nat} {most k : Nat} (hb : Bytes b) (hk : ∀ j (h : j < b.length), j < k → 128 ≤ b[j]) (hl : k < b.length) (hx : b[k] < 128) (h0 : 0 < k → b[k] ≠ 0) (hm : val (b.take (k + 1)) ≤ most) :
    scan b most = (val (b.take (k + 1)), k + 1, 0) := by
  have hf : IsForm (b.take (k + 1)) := by
    rw [List.take_succ_eq_append_getElem hl]
    refine isForm_of hx (fun h => h0 (Nat.pos_of_ne_zero fun e => h (by rw [e]; rfl))) fun y hy => ?_
    obtain ⟨j, hj, rfl⟩ := List.mem_iff_getElem.1 hy
    rw [List.length_take] at hj
    rw [List.getElem_take]
    exact ⟨hk j (by omega) (by omega), hb _ (List.getElem_mem _)⟩
  have e := leb_val hf
  rw [scan_found (n := val (b.take (k + 1))) ⟨hm, by rw [e]; exact List.take_prefix _ _⟩, e, List.length_take]
  rw [show min (k + 1) b.length = k + 1 by omega]
theorem scan_long {b : List Nat} {most : Nat} (hk : ∀ j (h : j < b.length), j < 10 → 128 ≤ b[j]) (hl : 10 ≤ b.length) (hm : most < 18446744073709551616) : scan b most = (0, 0, 3) :=
  scan_none fun n hn ht => by
    have h1 := (touch_more hk hl (by decide) ht).1
    have := leb_ten (n := n) (by omega)
    omega
theorem scan_more {b : List Nat} {most : Nat} (hb : Bytes b) (hk : ∀ x ∈ b, 128 ≤ x) (hm : b = [] ∨ val b + 128 ^ b.length ≤ most) : scan b most = (0, 0, 4) := by
  have hj : ∀ j (h : j < b.length), j < b.length → 128 ≤ b[j] := fun j h _ => hk _ (List.getElem_mem h)
  refine scan_cut (fun ⟨n, hn⟩ => ?_) ?_
  · cases b with
    | nil =>
      have h1 := hn.2.length_le
      have h2 := leb_pos n
      rw [List.length_nil] at h1
      omega
    | cons x r =>
      have := (touch_more hj (Nat.le_refl _) (by simp) (.inl hn.2)).1
      have := hn.2.length_le
      omega
  · rcases hm with rfl | h
    · exact ⟨0, Nat.zero_le _, List.nil_prefix⟩
    · exact ⟨_, h, by rw [begun fun x hx => ⟨hk x hx, hb x hx⟩]; exact List.prefix_append _ _⟩
theorem scan_less {b : List Nat} {most : Nat} (hk : ∀ x ∈ b, 128 ≤ x) (h0 : b ≠ []) (hm : most < val b + 128 ^ b.length) : scan b most = (0, 0, 3) := by
  have hj : ∀ j (h : j < b.length), j < b.length → 128 ≤ b[j] := fun j h _ => hk _ (List.getElem_mem h)
  refine scan_none fun n hn ht => ?_
  have := (touch_more hj (Nat.le_refl _) (List.length_pos_iff.2 h0) ht).2
  rw [List.take_length] at this
  omega
theorem scan_size {b : List Nat} {most : Nat} : (scan b most).2.1 ≤ b.length := by
  by_cases h : ∃ n, Found b most n
  · obtain ⟨n, hn⟩ := h
    rw [scan_found hn]
    exact hn.2.length_le
  · by_cases k : ∃ n, Cut b most n
    · rw [scan_cut h k]; exact Nat.zero_le _
    · rw [scan_form h k]; exact Nat.zero_le _
end Go.Proofs.Ytbpbokdomdmclaa
