/- The way to the laws of books: OMem to ODevPut. -/
import Derived.Test.YtfeodppdmbideaaGreatDoorBA1
import Derived.Test.YtfeodppdmbideaaGreatDoorBA3
import Derived.WalkKit
import Derived.Deep.OwnRows
import Derived.Deep.LoopGhost
import Derived.Deep.Draws
import Derived.Lib.Hide
import Derived.WalkSpells
import Derived.WalkLawsBesides
import Derived.Laws.CopyOwn
import Derived.Deep.QuietTactic
import Derived.BigQuiet
import Derived.Laws.OwnMore
import Derived.Laws.AppendOwnNone
import Derived.Deep.DeepMust
import Derived.Deep.RegionWith
namespace Go.Proofs.YtfeodppdmbideaaGreatDoor
open Go.RowKit

theorem info8 : (Tryz.prog.info? 5).map (fun i => (i.zero, i.size, i.bytes)) = some (some (.int .u8 0), 1, 1) := by kernel_rfl


/-- Bytes as cells. -/
def bytesV (l : List Nat) : List Value := l.map fun (x : Nat) => Value.int .u8 (x : Int)
theorem bytesV_len (l : List Nat) : (bytesV l).length = l.length := List.length_map ..
theorem bytesV_append (l r : List Nat) : bytesV (l ++ r) = bytesV l ++ bytesV r := List.map_append ..
theorem bytesV_one {l : List Nat} : ∀ u ∈ bytesV l, u.oneCell' = true := by
  intro u hu
  obtain ⟨j, _, rfl⟩ := List.mem_map.1 hu
  rfl
theorem bytesV_get {l : List Nat} {j : Nat} (h : j < l.length) : (bytesV l)[j]? = some (.int .u8 (l[j] : Int)) := by
  unfold bytesV
  rw [List.getElem?_map, List.getElem?_eq_getElem h]; rfl
/-- New bytes are answered. -/
def NewB (l : List Nat) (w : World) (e : Ending) (w' : World) : Prop :=
  ∃ A c, e = .returned (.slice A l.length c) ∧ w'.ownsRow w.heap.size 5 1 (.slice A l.length c) l.length (bytesV l) ∧ Below w.heap.size w w'
end Go.Proofs.YtfeodppdmbideaaGreatDoor
namespace Go.Proofs.YtfeodppdmbideaaGreatDoor
def leb (n : Nat) : List Nat := if h : n < 128 then [n] else (n % 128 + 128) :: leb (n / 128)
termination_by n
decreasing_by omega
theorem leb_small {n : Nat} (h : n < 128) : leb n = [n] := by rw [leb, dif_pos h]
theorem leb_big {n : Nat} (h : ¬ n < 128) : leb n = (n % 128 + 128) :: leb (n / 128) := by rw [leb, dif_neg h]
theorem leb_pos (n : Nat) : 0 < (leb n).length := by
  by_cases h : n < 128
  · rw [leb_small h]; exact Nat.one_pos
  · rw [leb_big h]; simp
theorem leb_len : ∀ (k n : Nat), n < 128 ^ (k + 1) → (leb n).length ≤ k + 1
  | 0, n, h => by rw [leb_small (by simpa using h)]; exact Nat.le_refl _
  | k + 1, n, h => by
    by_cases h1 : n < 128
    · rw [leb_small h1]; simp
    · rw [leb_big h1, List.length_cons]
      have := leb_len k (n / 128) (Nat.div_lt_of_lt_mul (by rw [Nat.mul_comm, ← Nat.pow_succ]; exact h))
      omega
theorem leb_ten {n : Nat} (h : n < 18446744073709551616) : (leb n).length ≤ 10 := leb_len 9 n (Nat.lt_of_lt_of_le h (by decide))
/-- The number whose form a signed number's form is. -/
def fold (n : Int) : Nat := if 0 ≤ n then 2 * n.toNat else 2 * (-(n + 1)).toNat + 1
end Go.Proofs.YtfeodppdmbideaaGreatDoor
namespace Go.Proofs.YtfeodppdmbideaaGreatDoor
open Go.RowKit

theorem slice_lit (w : World) (n : Nat) (h : n ≤ 9223372036854775807) : Slice (some ⟨w.heap.size, 0, none⟩) n n := ⟨Nat.le_refl _, h, fun h => by cases h⟩

/-- append(s, x...) of bytes, onto an own row: nil or not. -/
theorem wpList_append_bytes {w : World} {ops : Array Oper} {rest : List Oper} {o : Oper} {a : Act} {Q : Exit → Act → World → Prop} (hgd : o.guard = none) (s x : Operand) (t : TypeId)
    (ho : o.op = .call { callee := .builtin .append, args := #[s, x], argTypes := #[t, t] }) (ht : Tryz.prog.underlying t = some (.slice 5))
    (base : Nat) (v : Value) (l r : List Nat) (hs : a.eval s = v) (hown : w.ownsRow base 5 1 v l.length (bytesV l)) (A : Option Addr) (c : Nat) (hx : a.eval x = .slice A r.length c)
    (hsl : Slice A r.length c) (hh : Holds w A (bytesV r)) (hbig : l.length + r.length ≤ 1000000000) (w0 : World) (hb : Below base w0 w) (hbase : base ≤ w.heap.size)
    (h : ∀ A' c' w', w'.ownsRow base 5 1 (.slice A' (l ++ r).length c') (l ++ r).length (bytesV (l ++ r)) → Slice A' (l ++ r).length c' → Below base w0 w' → base ≤ w'.heap.size →
      wpList Tryz.prog ops Q rest (a.put o.dst (.slice A' (l ++ r).length c')) w') : wpList Tryz.prog ops Q (o :: rest) a w := by
  obtain ⟨i0, hi, hz0, hz1, hz2⟩ := info_parts info8
  cases A with
  | none =>
    obtain ⟨h0, rfl⟩ := hsl.2.2 rfl
    have hr : r = [] := List.eq_nil_of_length_eq_zero h0
    subst hr
    obtain ⟨A', c', e, hs', _⟩ := own_slice hown
    subst e
    refine wpList_append_own_none hgd s x t ho base 5 i0 1 ht hi _ l.length _ hs hown hx ?_
    rw [List.append_nil] at h
    exact h A' c' w hown hs' hb hbase
  | some ad =>
    refine wpList_append_own w hgd s x t ho base 5 i0 _ 1 1 ht hi hz0 hz1 hz2 rfl (by omega) v l.length _ hs hown ad r.length c (bytesV r) hx (by rw [bytesV_len]; omega) (hh.news rfl) bytesV_one (by unfold maxLen; omega) (by omega) hbase ?_
    intro v' w' hown' hg' _
    obtain ⟨A', c', e, hs', _⟩ := own_slice hown'
    subst e
    rw [← List.length_append] at hown' hs' ⊢
    rw [← bytesV_append] at hown'
    exact h A' c' w' hown' hs' (hb.grown hg' hbase (fun k hk => (hown.lt k hk).1)) (Nat.le_trans hbase hg'.size)
end Go.Proofs.YtfeodppdmbideaaGreatDoor
namespace Go.Proofs.YtfeodppdmbideaaGreatDoor
open Go.RowKit

/-- The forms of numbers, in order. -/
def lebs (l : List Int) : List Nat := l.flatMap fun x => leb x.toNat
theorem lebs_snoc (l : List Int) (x : Int) : lebs (l ++ [x]) = lebs l ++ leb x.toNat := by unfold lebs; rw [List.flatMap_append]; simp
theorem lebs_take {l : List Int} {k : Nat} (h : k < l.length) : lebs (l.take (k + 1)) = lebs (l.take k) ++ leb (l[k]).toNat := by
  rw [List.take_succ_eq_append_getElem h, lebs_snoc]
/-- Ints of 64 bits. -/
def Wide (l : List Int) : Prop := ∀ x ∈ l, -9223372036854775808 ≤ x ∧ x ≤ 9223372036854775807
theorem lebs_len {l : List Int} (h : Wide l) : (lebs l).length ≤ 10 * l.length := by
  induction l with
  | nil => simp [lebs]
  | cons x l ih =>
    have h1 := ih fun y hy => h y (List.mem_cons_of_mem _ hy)
    have h2 := h x List.mem_cons_self
    have h3 := leb_ten (n := x.toNat) (by omega)
    have e : lebs (x :: l) = leb x.toNat ++ lebs l := by unfold lebs; rw [List.flatMap_cons]
    rw [e, List.length_append, List.length_cons]
    omega

/-- What Put answers. -/
def OPutPost (b : List Nat) (l : List Int) (w : World) (e : Ending) (w' : World) : Prop :=
  ((∀ x ∈ l, 0 ≤ x) ∧ ∃ A c, e = .returned (.tuple #[.slice A (b ++ lebs l).length c, .int .i64 0]) ∧ w'.ownsRow w.heap.size 5 1 (.slice A (b ++ lebs l).length c) (b ++ lebs l).length (bytesV (b ++ lebs l)) ∧ Slice A (b ++ lebs l).length c ∧ Below w.heap.size w w') ∨
  ((¬ ∀ x ∈ l, 0 ≤ x) ∧ e = .returned (.tuple #[.slice none 0 0, .int .i64 1]) ∧ Below w.heap.size w w')

end Go.Proofs.YtfeodppdmbideaaGreatDoor
namespace Go.Proofs.YtfeodppdmbideaaGreatDoor
open Go.RowKit

theorem fold_bound {n : Int} (h1 : -9223372036854775808 ≤ n) (h2 : n ≤ 9223372036854775807) : fold n < 18446744073709551616 := by
  unfold fold
  split <;> omega
end Go.Proofs.YtfeodppdmbideaaGreatDoor
namespace Go.Proofs.YtfeodppdmbideaaGreatDoor
open Go.RowKit

theorem clone_any (A : Option Addr) (c : Nat) (b : List Nat) (w : World) (hs : Slice A b.length c) (hA : Holds w A (bytesV b)) (hb1 : b.length ≤ 1000000) :
    Calls Tryz.prog 114 #[.slice A b.length c] w (NewB b w) := by
  have q22 : ∀ (w : World) (a : Option Addr) (n c n' c' : Nat), (binOp .eql 47 (.slice a n c) (.slice none n' c')).run Tryz.prog w = .ok (.bool a.isNone) w := fun w a n c n' c' => Lib.run_eql_slice_nil w _ _ a n c n' c' Tryz.underlying47
  cases A with
  | none =>
    obtain ⟨h0, rfl⟩ := hs.2.2 rfl
    obtain rfl : b = [] := List.eq_nil_of_length_eq_zero h0
    go_enter Tryz.func114, Tryz.ntmps114
    go_wp2_with fail
    go_ret
    exact ⟨none, 0, rfl, ⟨by simp [bytesV], .inl ⟨rfl, rfl⟩⟩, Below.refl _ _⟩
  | some a =>
    have hlit := World.ownsRow_lit (base := w.heap.size) (e := 5) (size := 1) w #[] 0 (Nat.le_refl _) (by unfold maxLen; omega) rfl
    have hb0 : Below w.heap.size w (w.alloc (.cells #[] 5)) := (Below.refl _ _).alloc (Nat.le_refl _) _
    go_enter Tryz.func114, Tryz.ntmps114
    go_wp2_with (at_builtin; refine wpList_append_bytes rfl (.tmp 5) (.tmp 6) _ rfl Tryz.underlying47 w.heap.size _ [] b rfl hlit (some a) c rfl hs (hA.alloc _) (by simp; omega) w hb0 (by simp) ?_; intro A1 c1 w1 hown1 hs1 hb1 hz1)
    rw [List.nil_append] at hown1 hs1
    go_ret
    exact ⟨A1, c1, rfl, hown1, hb1⟩
end Go.Proofs.YtfeodppdmbideaaGreatDoor
namespace Go.Proofs.YtfeodppdmbideaaGreatDoor

/-- The number that bytes tell, seven bits each. -/
def val : List Nat → Nat
  | [] => 0
  | x :: xs => x % 128 + 128 * val xs
theorem val_append : ∀ (l r : List Nat), val (l ++ r) = val l + 128 ^ l.length * val r
  | [], r => by simp [val]
  | x :: xs, r => by
    rw [List.cons_append, val, val, val_append xs r, List.length_cons, Nat.pow_succ, Nat.mul_add, ← Nat.mul_assoc, Nat.mul_comm (128 ^ xs.length) 128]
    omega
theorem val_lt : ∀ (l : List Nat), val l < 128 ^ l.length
  | [] => by simp [val]
  | x :: xs => by
    have := val_lt xs
    rw [val, List.length_cons, Nat.pow_succ]
    omega
theorem val_prefix {l r : List Nat} (h : l <+: r) : val l ≤ val r := by
  obtain ⟨t, rfl⟩ := h
  rw [val_append]
  omega
/-- The form of a number: all bytes but the last one go on. -/
def IsForm : List Nat → Prop
  | [] => False
  | [x] => x < 128
  | x :: y :: r => (128 ≤ x ∧ x < 256) ∧ IsForm (y :: r) ∧ (y :: r) ≠ [0]
theorem IsForm.pos {l : List Nat} (h : IsForm l) (h0 : l ≠ [0]) : 0 < val l := by
  induction l with
  | nil => exact h.elim
  | cons x r ih =>
    cases r with
    | nil =>
      have h1 : x < 128 := h
      have h2 : x ≠ 0 := fun e => h0 (by rw [e])
      simp only [val]
      omega
    | cons y r =>
      have := ih h.2.1 h.2.2
      rw [val]
      omega
theorem leb_val {l : List Nat} (h : IsForm l) : leb (val l) = l := by
  induction l with
  | nil => exact h.elim
  | cons x r ih =>
    cases r with
    | nil =>
      have h1 : x < 128 := h
      simp only [val]
      rw [leb_small (by omega), show x % 128 + 128 * 0 = x by omega]
    | cons y r =>
      have h1 := h.1
      have h2 := h.2.1.pos h.2.2
      have h3 := ih h.2.1
      rw [val]
      generalize val (y :: r) = v at *
      rw [leb_big (by omega), show (x % 128 + 128 * v) % 128 + 128 = x by omega, show (x % 128 + 128 * v) / 128 = v by omega, h3]
theorem leb_ne_zero {n : Nat} (h : 0 < n) : leb n ≠ [0] := by
  by_cases h1 : n < 128
  · rw [leb_small h1]
    intro e
    simp at e
    omega
  · rw [leb_big h1]
    intro e
    simp at e
theorem leb_form : ∀ (n : Nat), IsForm (leb n) := by
  intro n
  induction n using Nat.strongRecOn with
  | ind n ih =>
    by_cases h : n < 128
    · rw [leb_small h]; exact h
    · rw [leb_big h]
      have h1 := ih (n / 128) (by omega)
      have h2 := leb_ne_zero (n := n / 128) (by omega)
      cases e : leb (n / 128) with
      | nil => rw [e] at h1; exact h1.elim
      | cons y r =>
        rw [e] at h1 h2
        exact ⟨by omega, h1, h2⟩
theorem val_leb (n : Nat) : val (leb n) = n := by
  induction n using Nat.strongRecOn with
  | ind n ih =>
    by_cases h : n < 128
    · rw [leb_small h]; simp only [val]; omega
    · rw [leb_big h, val, ih (n / 128) (by omega)]
      omega
theorem leb_inj {n m : Nat} (h : leb n = leb m) : n = m := by rw [← val_leb n, h, val_leb]
/-- A form goes on at every byte but its last one. -/
theorem IsForm.cut {l p r : List Nat} (h : IsForm l) (e : l = p ++ r) (hr : r ≠ []) : ∀ x ∈ p, 128 ≤ x := by
  induction p generalizing l with
  | nil => simp
  | cons y p ih =>
    subst e
    cases hp : p ++ r with
    | nil => simp at hp; exact absurd hp.2 hr
    | cons z q =>
      rw [List.cons_append, hp] at h
      intro x hx
      rcases List.mem_cons.1 hx with rfl | hx
      · exact h.1.1
      · exact ih h.2.1 hp.symm x hx
theorem IsForm.end_ {p : List Nat} {x : Nat} (h : IsForm (p ++ [x])) : x < 128 ∧ (p ≠ [] → x ≠ 0) := by
  induction p with
  | nil => exact ⟨h, fun h => absurd rfl h⟩
  | cons y p ih =>
    cases hp : p ++ [x] with
    | nil => simp at hp
    | cons z q =>
      rw [List.cons_append, hp] at h
      have h1 := h.2.1
      have h2 := h.2.2
      rw [← hp] at h1 h2
      refine ⟨(ih h1).1, fun _ => ?_⟩
      cases p with
      | nil => intro e; subst e; exact h2 rfl
      | cons => exact (ih h1).2 (by simp)
theorem IsForm.ends {l : List Nat} (h : IsForm l) : ∃ p x, l = p ++ [x] ∧ x < 128 ∧ (p ≠ [] → x ≠ 0) ∧ ∀ y ∈ p, 128 ≤ y := by
  have hne : l ≠ [] := by intro e; subst e; exact h
  have e := (List.dropLast_concat_getLast hne).symm
  refine ⟨_, _, e, ?_⟩
  have h1 := h
  rw [e] at h1
  exact ⟨h1.end_.1, h1.end_.2, h.cut e (by simp)⟩
theorem isForm_of {p : List Nat} {x : Nat} (hx : x < 128) (h0 : p ≠ [] → x ≠ 0) (hp : ∀ y ∈ p, 128 ≤ y ∧ y < 256) : IsForm (p ++ [x]) := by
  induction p with
  | nil => exact hx
  | cons y p ih =>
    have h1 := ih (fun _ => h0 (by simp)) (fun z hz => hp z (List.mem_cons_of_mem _ hz))
    cases hq : p ++ [x] with
    | nil => simp at hq
    | cons z q =>
      rw [List.cons_append, hq]
      rw [hq] at h1
      refine ⟨hp y List.mem_cons_self, h1, ?_⟩
      rw [← hq]
      intro e
      cases p with
      | nil => simp at e; exact h0 (by simp) e
      | cons u p => simp at e
/-- Bytes: numbers below 256. -/
def Bytes (b : List Nat) : Prop := ∀ x ∈ b, x < 256
/-- The form of a number up to most begins these bytes. -/
def Found (b : List Nat) (most n : Nat) : Prop := n ≤ most ∧ leb n <+: b
def Cut (b : List Nat) (most n : Nat) : Prop := n ≤ most ∧ b <+: leb n
/-- Where the first k bytes go on, whatever form begins the bytes or is begun by them holds one byte more. -/
theorem touch {b : List Nat} {k n : Nat} (hk : ∀ j (h : j < b.length), j < k → 128 ≤ b[j]) (h : leb n <+: b ∨ b <+: leb n) : b.take (k + 1) <+: leb n := by
  rcases h with h | h
  · obtain ⟨p, x, e, hx, _, _⟩ := (leb_form n).ends
    obtain ⟨t, ht⟩ := h
    have hlen : k < (leb n).length := by
      refine Nat.lt_of_not_le fun hle => ?_
      have hpl : p.length < b.length := by rw [← ht, e]; simp
      have h1 := hk p.length hpl (by rw [e] at hle; simp at hle; omega)
      have h2 : b[p.length]? = some x := by rw [← ht, e]; simp
      rw [List.getElem?_eq_getElem hpl] at h2
      injection h2 with h2
      omega
    rw [← ht, List.take_append_of_le_length (by omega)]
    exact List.take_prefix _ _
  · exact (List.take_prefix _ _).trans h
/-- A byte that does not go on ends it. -/
theorem touch_end {b : List Nat} {k n : Nat} (hk : ∀ j (h : j < b.length), j < k → 128 ≤ b[j]) (hl : k < b.length) (hx : b[k] < 128) (h : leb n <+: b ∨ b <+: leb n) : leb n = b.take (k + 1) := by
  obtain ⟨t, ht⟩ := touch hk h
  cases t with
  | nil => rw [← ht, List.append_nil]
  | cons y t =>
    have h1 := (leb_form n).cut ht.symm (by simp) b[k] (by rw [List.take_succ_eq_append_getElem hl]; exact List.mem_append_right _ (List.mem_singleton_self _))
    omega
theorem touch_more {b : List Nat} {k n : Nat} (hk : ∀ j (h : j < b.length), j < k → 128 ≤ b[j]) (hl : k ≤ b.length) (h0 : 0 < k) (h : leb n <+: b ∨ b <+: leb n) : k < (leb n).length ∧ val (b.take k) + 128 ^ k ≤ n := by
  have h1 := touch hk h
  have h2 : b.take k <+: leb n := List.IsPrefix.trans ⟨(b.drop k).take 1, by rw [← List.take_add]⟩ h1
  obtain ⟨t, ht⟩ := h2
  have hlen : (b.take k).length = k := by rw [List.length_take]; omega
  have hne : t ≠ [] := by
    rintro rfl
    rw [List.append_nil] at ht
    obtain ⟨p, x, e, hx, _, _⟩ := (leb_form n).ends
    have hp : p.length + 1 = k := by rw [← hlen, ht, e]; simp
    have h3 : (b.take k)[p.length]? = some x := by rw [ht, e]; simp
    rw [List.getElem?_take, if_pos (by omega), List.getElem?_eq_getElem (by omega)] at h3
    injection h3 with h3
    have := hk p.length (by omega) (by omega)
    omega
  have hv : 0 < val t := by
    obtain ⟨p, x, e, hx, h0', hp⟩ := (leb_form n).ends
    rw [e] at ht
    have : t = (p ++ [x]).drop k := by rw [← ht, List.drop_append, hlen, Nat.sub_self, List.drop_zero, List.drop_of_length_le (by omega), List.nil_append]
    rw [List.drop_append] at this
    have hpk : k ≤ p.length := by
      have h5 := congrArg List.length ht
      have h6 := List.length_pos_iff.2 hne
      rw [List.length_append, List.length_append, hlen] at h5
      simp at h5
      omega
    rw [show k - p.length = 0 by omega, List.drop_zero] at this
    rw [this, val_append]
    have h7 := h0' (by intro e; subst e; simp at hpk; omega)
    have h8 : val [x] = x := by simp only [val]; omega
    rw [h8]
    have := Nat.pow_pos (n := (List.drop k p).length) (show 0 < 128 by decide)
    have := Nat.mul_pos this (show 0 < x by omega)
    omega
  refine ⟨?_, ?_⟩
  · rw [← ht, List.length_append, hlen]
    have := List.length_pos_iff.2 hne
    omega
  · rw [← val_leb n, ← ht, val_append, hlen]
    have := Nat.mul_le_mul_left (128 ^ k) hv
    omega
/-- Bytes that all go on begin a form. -/
theorem begun {b : List Nat} (hb : ∀ x ∈ b, 128 ≤ x ∧ x < 256) : leb (val b + 128 ^ b.length) = b ++ [1] := by
  have h1 := isForm_of (p := b) (x := 1) (by decide) (fun _ => by decide) hb
  have h2 := leb_val h1
  rw [val_append, show val [1] = 1 from rfl, Nat.mul_one] at h2
  exact h2

open Classical in
/-- What a read tells: the number, its bytes, the error. -/
noncomputable def scan (b : List Nat) (most : Nat) : Nat × Nat × Nat :=
  if h : ∃ n, Found b most n then (h.choose, (leb h.choose).length, 0) else if ∃ n, Cut b most n then (0, 0, 4) else (0, 0, 3)
theorem found_one {b : List Nat} {most n m : Nat} (h : Found b most n) (k : Found b most m) : n = m := by
  obtain ⟨p, x, e, hx, _, hp⟩ := (leb_form n).ends
  have hk : ∀ j (h : j < b.length), j < p.length → 128 ≤ b[j] := fun j hj hjp => by
    obtain ⟨t, ht⟩ := h.2
    refine hp _ ?_
    have h1 : b[j]? = some p[j] := by rw [← ht, e, List.append_assoc, List.getElem?_append_left hjp, List.getElem?_eq_getElem hjp]
    rw [List.getElem?_eq_getElem hj] at h1
    injection h1 with h1
    rw [h1]
    exact List.getElem_mem _
  have hl : p.length < b.length := by
    obtain ⟨t, ht⟩ := h.2
    rw [← ht, e]
    simp
  have hx' : b[p.length] < 128 := by
    obtain ⟨t, ht⟩ := h.2
    have h2 : b[p.length]? = some x := by rw [← ht, e]; simp
    rw [List.getElem?_eq_getElem hl] at h2
    injection h2 with h2
    omega
  exact leb_inj ((touch_end hk hl hx' (.inl h.2)).trans (touch_end hk hl hx' (.inl k.2)).symm)
theorem scan_found {b : List Nat} {most n : Nat} (h : Found b most n) : scan b most = (n, (leb n).length, 0) := by
  have hx : ∃ n, Found b most n := ⟨n, h⟩
  unfold scan
  rw [dif_pos hx, found_one hx.choose_spec h]
theorem scan_cut {b : List Nat} {most : Nat} (h : ¬ ∃ n, Found b most n) (k : ∃ n, Cut b most n) : scan b most = (0, 0, 4) := by
  unfold scan
  rw [dif_neg h, if_pos k]
theorem scan_form {b : List Nat} {most : Nat} (h : ¬ ∃ n, Found b most n) (k : ¬ ∃ n, Cut b most n) : scan b most = (0, 0, 3) := by
  unfold scan
  rw [dif_neg h, if_neg k]
theorem scan_none {b : List Nat} {most : Nat} (h : ∀ n, n ≤ most → leb n <+: b ∨ b <+: leb n → False) : scan b most = (0, 0, 3) :=
  scan_form (fun ⟨n, hn⟩ => h n hn.1 (.inl hn.2)) (fun ⟨n, hn⟩ => h n hn.1 (.inr hn.2))
/-- The ways out of a read, by the bytes that go on. -/
theorem scan_great {b : List Nat} {most k : Nat} (hk : ∀ j (h : j < b.length), j < k → 128 ≤ b[j]) (h : most < val (b.take (k + 1))) : scan b most = (0, 0, 3) :=
  scan_none fun n hn ht => by
    have h1 := val_prefix (touch hk ht)
    rw [val_leb] at h1
    exact Nat.lt_irrefl _ (Nat.lt_of_lt_of_le (Nat.lt_of_lt_of_le h h1) hn)
theorem scan_bad {b : List Nat} {most k : Nat} (hk : ∀ j (h : j < b.length), j < k → 128 ≤ b[j]) (hl : k < b.length) (hx : b[k] = 0) (h0 : 0 < k) : scan b most = (0, 0, 3) :=
  scan_none fun n _ ht => by
    have e := touch_end hk hl (Nat.lt_of_le_of_lt (Nat.le_of_eq hx) (by decide)) ht
    rw [List.take_succ_eq_append_getElem hl] at e
    have h1 := leb_form n
    rw [e] at h1
    refine h1.end_.2 ?_ hx
    intro e
    have h2 := congrArg List.length e
    rw [List.length_take, List.length_nil] at h2
    omega
theorem scan_ok {b : List Nat} {most k : Nat} (hb : Bytes b) (hk : ∀ j (h : j < b.length), j < k → 128 ≤ b[j]) (hl : k < b.length) (hx : b[k] < 128) (h0 : 0 < k → b[k] ≠ 0) (hm : val (b.take (k + 1)) ≤ most) :
    scan b most = (val (b.take (k + 1)), k + 1, 0) := by
  have hf : IsForm (b.take (k + 1)) := by
    rw [List.take_succ_eq_append_getElem hl]
    refine isForm_of hx (fun h => h0 (Nat.pos_of_ne_zero fun e => h (by rw [e]; rfl))) fun y hy => ?_
    obtain ⟨j, hj, rfl⟩ := List.mem_iff_getElem.1 hy
    rw [List.length_take] at hj
    rw [List.getElem_take]
    exact ⟨hk j (by omega) (by omega), hb _ (List.getElem_mem _)⟩
  have e := leb_val hf
  rw [scan_found (n := val (b.take (k + 1))) ⟨hm, by rw [e]; exact List.take_prefix _ _⟩, e, List.length_take]
  rw [show min (k + 1) b.length = k + 1 by omega]
theorem scan_long {b : List Nat} {most : Nat} (hk : ∀ j (h : j < b.length), j < 10 → 128 ≤ b[j]) (hl : 10 ≤ b.length) (hm : most < 18446744073709551616) : scan b most = (0, 0, 3) :=
  scan_none fun n hn ht => by
    have h1 := (touch_more hk hl (by decide) ht).1
    have := leb_ten (n := n) (by omega)
    omega
theorem scan_more {b : List Nat} {most : Nat} (hb : Bytes b) (hk : ∀ x ∈ b, 128 ≤ x) (hm : b = [] ∨ val b + 128 ^ b.length ≤ most) : scan b most = (0, 0, 4) := by
  have hj : ∀ j (h : j < b.length), j < b.length → 128 ≤ b[j] := fun j h _ => hk _ (List.getElem_mem h)
  refine scan_cut (fun ⟨n, hn⟩ => ?_) ?_
  · cases b with
    | nil =>
      have h1 := hn.2.length_le
      have h2 := leb_pos n
      rw [List.length_nil] at h1
      omega
    | cons x r =>
      have := (touch_more hj (Nat.le_refl _) (by simp) (.inl hn.2)).1
      have := hn.2.length_le
      omega
  · rcases hm with rfl | h
    · exact ⟨0, Nat.zero_le _, List.nil_prefix⟩
    · exact ⟨_, h, by rw [begun fun x hx => ⟨hk x hx, hb x hx⟩]; exact List.prefix_append _ _⟩
theorem scan_less {b : List Nat} {most : Nat} (hk : ∀ x ∈ b, 128 ≤ x) (h0 : b ≠ []) (hm : most < val b + 128 ^ b.length) : scan b most = (0, 0, 3) := by
  have hj : ∀ j (h : j < b.length), j < b.length → 128 ≤ b[j] := fun j h _ => hk _ (List.getElem_mem h)
  refine scan_none fun n hn ht => ?_
  have := (touch_more hj (Nat.le_refl _) (List.length_pos_iff.2 h0) ht).2
  rw [List.take_length] at this
  omega
end Go.Proofs.YtfeodppdmbideaaGreatDoor
namespace Go.Proofs.YtfeodppdmbideaaGreatDoor

abbrev St := List Nat × Nat
/-- A number up to most is read. -/
noncomputable def nextS (most : Nat) (s : St) : Nat × St :=
  if s.2 ≠ 0 then (0, s) else ((scan s.1 most).1, (s.1.drop (scan s.1 most).2.1, (scan s.1 most).2.2))
noncomputable def numS (most : Int) (s : St) : Nat × St :=
  if most < 0 then (0, (s.1, if s.2 = 0 then 3 else s.2)) else nextS most.toNat s
/-- The number of which fold makes this. -/
def unfoldN (m : Nat) : Int := if m % 2 = 0 then (m / 2 : Nat) else -((m / 2 : Nat) : Int) - 1
noncomputable def signedS (s : St) : Int × St := (unfoldN (nextS 18446744073709551615 s).1, (nextS 18446744073709551615 s).2)
noncomputable def nodeS (s : St) : (Int × Int × Int) × St :=
  let a := numS 255 s; let b := numS 1048576 a.2; let c := numS 1048576 b.2
  (((a.1 : Int), (b.1 : Int), (c.1 : Int)), c.2)
/-- n nodes more, behind those that are there. -/
noncomputable def orowA : Nat → List (Int × Int × Int) → St → List (Int × Int × Int) × St
  | 0, t, s => (t, s)
  | n + 1, t, s => if (nodeS s).2.2 ≠ 0 then ([], (nodeS s).2) else orowA n (t ++ [(nodeS s).1]) (nodeS s).2
noncomputable def rowS (s : St) : List (Int × Int × Int) × St := orowA (numS 4096 s).1 [] (numS 4096 s).2

theorem scan_le (b : List Nat) (most : Nat) : (scan b most).1 ≤ most := by
  by_cases h : ∃ n, Found b most n
  · obtain ⟨n, hn⟩ := h
    rw [scan_found hn]
    exact hn.1
  · by_cases k : ∃ n, Cut b most n
    · rw [scan_cut h k]; exact Nat.zero_le _
    · rw [scan_form h k]; exact Nat.zero_le _
theorem nextS_le (most : Nat) (s : St) : (nextS most s).1 ≤ most := by
  unfold nextS
  split
  · exact Nat.zero_le _
  · exact scan_le _ _
theorem numS_le (most : Int) (s : St) : (numS most s).1 ≤ most.toNat := by
  unfold numS
  split
  · exact Nat.zero_le _
  · exact nextS_le _ _
theorem nextS_stays {most : Nat} {s : St} (h : s.2 ≠ 0) : nextS most s = (0, s) := by unfold nextS; rw [if_pos h]
theorem numS_stays {most : Int} {s : St} (h : s.2 ≠ 0) : numS most s = (0, s) := by
  unfold numS
  split
  · rfl
  · exact nextS_stays h
theorem signedS_stays {s : St} (h : s.2 ≠ 0) : signedS s = (0, s) := by
  unfold signedS
  rw [nextS_stays h]
  exact congrArg (·, s) (by decide : unfoldN 0 = 0)
theorem rowS_stays {s : St} (h : s.2 ≠ 0) : rowS s = ([], s) := by
  unfold rowS
  rw [numS_stays h]
  rfl
theorem rowA_len : ∀ (n : Nat) (t : List (Int × Int × Int)) (s : St), (orowA n t s).1.length ≤ t.length + n
  | 0, _, _ => Nat.le_refl _
  | n + 1, t, s => by
    rw [orowA]
    split
    · simp
    · have := rowA_len n (t ++ [(nodeS s).1]) (nodeS s).2
      simp at this
      omega
/-- Numbers that were put are read. -/
theorem nextS_leb {n most : Nat} (h : n ≤ most) (r : List Nat) : nextS most (leb n ++ r, 0) = (n, (r, 0)) := by
  have hf : Found (leb n ++ r) most n := ⟨h, List.prefix_append _ _⟩
  unfold nextS
  rw [if_neg (by simp), scan_found hf]
  simp
theorem numS_leb {n : Nat} {most : Int} (h : (n : Int) ≤ most) (r : List Nat) : numS most (leb n ++ r, 0) = (n, (r, 0)) := by
  unfold numS
  rw [if_neg (by omega), nextS_leb (by omega)]
theorem unfold_fold (n : Int) : unfoldN (fold n) = n := by
  unfold unfoldN fold
  split <;> split <;> omega
theorem fold_unfold (m : Nat) : fold (unfoldN m) = m := by
  unfold unfoldN fold
  split <;> split <;> omega
theorem signedS_leb {n : Int} (h1 : -9223372036854775808 ≤ n) (h2 : n ≤ 9223372036854775807) (r : List Nat) : signedS (leb (fold n) ++ r, 0) = (n, (r, 0)) := by
  have h : fold n ≤ 18446744073709551615 := by
    unfold fold
    split <;> omega
  unfold signedS
  rw [nextS_leb h, unfold_fold]
/-- A number that is read: its form stood there. -/
theorem nextS_ok {most : Nat} {s : St} (h : (nextS most s).2.2 = 0) : s.2 = 0 ∧ leb (nextS most s).1 ++ (nextS most s).2.1 = s.1 := by
  by_cases h0 : s.2 ≠ 0
  · rw [nextS_stays h0] at h; exact absurd h h0
  · refine ⟨by simpa using h0, ?_⟩
    unfold nextS at h ⊢
    rw [if_neg h0] at h ⊢
    by_cases h1 : ∃ n, Found s.1 most n
    · obtain ⟨n, hn⟩ := h1
      rw [scan_found hn]
      obtain ⟨t, ht⟩ := hn.2
      rw [← ht]
      simp
    · by_cases k : ∃ n, Cut s.1 most n
      · rw [scan_cut h1 k] at h; cases h
      · rw [scan_form h1 k] at h; cases h
theorem numS_ok {most : Int} {s : St} (h : (numS most s).2.2 = 0) : 0 ≤ most ∧ s.2 = 0 ∧ leb (numS most s).1 ++ (numS most s).2.1 = s.1 ∧ ((numS most s).1 : Int) ≤ most := by
  by_cases h0 : most < 0
  · unfold numS at h
    rw [if_pos h0] at h
    simp only at h
    split at h
    · cases h
    · rename_i h1; exact absurd h h1
  · have e : numS most s = nextS most.toNat s := by unfold numS; rw [if_neg h0]
    rw [e] at h ⊢
    have h1 := nextS_ok h
    have h2 := nextS_le most.toNat s
    exact ⟨by omega, h1.1, h1.2, by omega⟩
/-- A number that isn't read leaves all as it was. -/
theorem nextS_bad {most : Nat} {s : St} (h : (nextS most s).2.2 ≠ 0) : (nextS most s).1 = 0 ∧ (nextS most s).2.1 = s.1 := by
  by_cases h0 : s.2 ≠ 0
  · rw [nextS_stays h0]; exact ⟨rfl, rfl⟩
  · unfold nextS at h ⊢
    rw [if_neg h0] at h ⊢
    by_cases h1 : ∃ n, Found s.1 most n
    · obtain ⟨n, hn⟩ := h1
      rw [scan_found hn] at h
      exact absurd rfl h
    · by_cases k : ∃ n, Cut s.1 most n
      · rw [scan_cut h1 k]; exact ⟨rfl, rfl⟩
      · rw [scan_form h1 k]; exact ⟨rfl, rfl⟩
theorem numS_bad {most : Int} {s : St} (h : (numS most s).2.2 ≠ 0) : (numS most s).1 = 0 ∧ (numS most s).2.1 = s.1 := by
  by_cases h0 : most < 0
  · unfold numS; rw [if_pos h0]; exact ⟨rfl, rfl⟩
  · have e : numS most s = nextS most.toNat s := by unfold numS; rw [if_neg h0]
    rw [e] at h ⊢
    exact nextS_bad h
theorem unfold_small {m : Nat} (h : m ≤ 18446744073709551615) : -9223372036854775808 ≤ unfoldN m ∧ unfoldN m ≤ 9223372036854775807 := by
  unfold unfoldN
  split <;> omega
end Go.Proofs.YtfeodppdmbideaaGreatDoor
namespace Go.Proofs.YtfeodppdmbideaaGreatDoor
open Go.RowKit

/-- These bytes are answered in an own row (from base on). -/
def Owned (base : Nat) (w0 : World) (l : List Nat) (e : Ending) (w' : World) : Prop :=
  ∃ A c, e = .returned (.slice A l.length c) ∧ w'.ownsRow base 5 1 (.slice A l.length c) l.length (bytesV l) ∧ Slice A l.length c ∧ Below base w0 w' ∧ base ≤ w'.heap.size
theorem ret_slice2 {A : Option Addr} {n m c : Nat} (h : n = m) : Ending.returned (.slice A n c) = .returned (.slice A m c) := by rw [h]

set_option maxHeartbeats 1000000 in
theorem appendForm_any (base : Nat) (v : Value) (l : List Nat) (n : Nat) (w0 w : World) (hown : w.ownsRow base 5 1 v l.length (bytesV l)) (hb : Below base w0 w) (hbase : base ≤ w.heap.size) (hn : n < 18446744073709551616) (hl : l.length ≤ 100000000) :
    Calls Tryz.prog 199 #[v, .int .u64 n] w (Owned base w0 (l ++ leb n)) := by
  have hten := leb_ten hn
  go_enter Tryz.func199, Tryz.ntmps199
  go_wp2_with fail
  go_loopw [0, 1] (fun v i wr => ∃ (m : Nat) (p : List Nat), i = .int .u64 m ∧ m ≤ n ∧ Hid (leb n = p ++ leb m) ∧ wr.ownsRow base 5 1 v (l ++ p).length (bytesV (l ++ p)) ∧ Below base w0 wr ∧ base ≤ wr.heap.size) (fun _ i _ => (intOf i).toNat)
  case atStart => exact ⟨n, [], rfl, Nat.le_refl _, rfl, by simpa using hown, hb, hbase⟩
  case round =>
    clear hown hb hbase
    obtain ⟨m, p, rfl, hm, HP, hown, hb, hbase⟩ := hrel
    have hpl : p.length ≤ 10 := by have := congrArg List.length HP.out; rw [List.length_append] at this; omega
    have hlp : (l ++ p).length ≤ 100000010 := by rw [List.length_append]; omega
    have hb1 : Below base w0 wr := hb
    by_cases hlt : m < 128
    · have h1 : ¬ (128 : Int) ≤ (m : Int) := by omega
      have HE : Hid (leb n = p ++ [m]) := by have := HP.out; rw [leb_small hlt] at this; exact this
      go_wp2_with (at_builtin; go_must (refine wpList_append_bytes rfl (.tmp 16) (.tmp 19) _ rfl Tryz.underlying47 base _ (l ++ p) [m] rfl (hown.alloc _) (some ⟨wr.heap.size, 0, none⟩) 1 rfl (slice_lit wr 1 (by omega)) (holds_lit wr [.int .u8 m] _) (by simp only [List.length_cons, List.length_nil]; omega) w0 (hb.alloc hbase _) (by simp; omega) ?_); intro A3 c3 w3 hown3 hs3 hb3 hz3)
      go_ret
      rw [HE.out, ← List.append_assoc]
      exact ⟨A3, c3, ret_slice2 (by simp), hown3, hs3, hb3, hz3⟩
    · have h1 : (128 : Int) ≤ (m : Int) := by omega
      obtain ⟨x, hx⟩ : ∃ x, x = m % 128 + 128 := ⟨_, rfl⟩
      obtain ⟨q, hq⟩ : ∃ q, q = m / 128 := ⟨_, rfl⟩
      have hxi : (m : Int) % 128 + 128 = (x : Int) := by omega
      have hxb : x < 256 := by omega
      have hqi : (m : Int) / 128 = (q : Int) := by omega
      have hqm : q < m := by omega
      have HE : Hid (leb n = (p ++ [x]) ++ leb q) := by have := HP.out; rw [leb_big hlt, ← hx, ← hq] at this; rw [this, List.append_assoc]; rfl
      clear hx hq
      go_wp2_with (at_builtin; go_must (refine wpList_append_bytes rfl (.tmp 7) (.tmp 12) _ rfl Tryz.underlying47 base _ (l ++ p) [x] rfl (hown.alloc _) (some ⟨wr.heap.size, 0, none⟩) 1 rfl (slice_lit wr 1 (by omega)) (holds_lit wr [.int .u8 x] _) (by simp only [List.length_cons, List.length_nil]; omega) w0 (hb.alloc hbase _) (by simp; omega) ?_); intro A3 c3 w3 hown3 hs3 hb3 hz3)
      go_roundw
      case rel => exact ⟨q, p ++ [x], rfl, by omega, HE, by rw [← List.append_assoc, show l.length + (p.length + 1) = (l ++ p ++ [x]).length by simp]; exact hown3, hb3, hz3⟩
      case measure => simp [intOf] <;> omega

theorem ofold_any (n : Int) (w : World) (h1 : -9223372036854775808 ≤ n) (h2 : n ≤ 9223372036854775807) :
    Calls Tryz.prog 200 #[.int .i64 n] w fun e w' => e = .returned (.int .u64 (fold n : Nat)) ∧ w = w' := by
  by_cases h : 0 ≤ n
  · have e : ((fold n : Nat) : Int) = n * 2 := by unfold fold; rw [if_pos h]; omega
    rw [e]
    have h0 : ¬ n < 0 := by omega
    go_enter Tryz.func200, Tryz.ntmps200
    go_wp2_with fail
    go_ret
    exact ⟨rfl, rfl⟩
  · have e : ((fold n : Nat) : Int) = -(n + 1) * 2 + 1 := by unfold fold; rw [if_neg h]; omega
    rw [e]
    have h0 : n < 0 := by omega
    go_enter Tryz.func200, Tryz.ntmps200
    go_wp2_with fail
    go_ret
    exact ⟨rfl, rfl⟩
theorem unfold_any (m : Nat) (w : World) (h : m < 18446744073709551616) :
    Calls Tryz.prog 202 #[.int .u64 m] w fun e w' => e = .returned (.int .i64 (unfoldN m)) ∧ w = w' := by
  obtain ⟨q, hq⟩ : ∃ q, q = m / 2 := ⟨_, rfl⟩
  have hqi : (m : Int) / 2 = (q : Int) := by omega
  have hqb : q < 9223372036854775808 := by omega
  by_cases h0 : m % 2 = 0
  · have e : unfoldN m = q := by unfold unfoldN; rw [if_pos h0]; omega
    have hr : (m : Int) % 2 = 0 := by omega
    rw [e]
    clear hq e
    go_enter Tryz.func202, Tryz.ntmps202
    go_wp2_with fail
    go_ret
    exact ⟨rfl, rfl⟩
  · have e : unfoldN m = -(q : Int) - 1 := by unfold unfoldN; rw [if_neg h0]; omega
    have hr : (m : Int) % 2 = 1 := by omega
    rw [e]
    clear hq e
    go_enter Tryz.func202, Tryz.ntmps202
    go_wp2_with fail
    go_ret
    exact ⟨rfl, rfl⟩

set_option maxHeartbeats 1000000 in
theorem osigned_any (A : Option Addr) (c : Nat) (b : List Nat) (n : Int) (w : World) (hs : Slice A b.length c) (hA : Holds w A (bytesV b)) (h1 : -9223372036854775808 ≤ n) (h2 : n ≤ 9223372036854775807) (hb1 : b.length ≤ 1000000) :
    Calls Tryz.prog 183 #[.slice A b.length c, .int .i64 n] w (Owned w.heap.size w (b ++ leb (fold n))) := by
  have hf := fold_bound h1 h2
  have HF := Lib.hid fun w => ofold_any n w h1 h2
  generalize fold n = m at *
  go_enter Tryz.func183, Tryz.ntmps183
  go_wp2_with fail
  refine (clone_any A c b w hs hA hb1).mono ?_
  rintro e w1 ⟨A1, c1, rfl, hown1, hb1⟩
  go_wp2_with fail
  refine (HF.out _).mono ?_
  rintro e w' ⟨rfl, rfl⟩
  go_wp2_with fail
  refine (appendForm_any w.heap.size _ b m w w1 hown1 hb1 hb1.size hf (by omega)).mono ?_
  rintro e w2 ⟨A2, c2, rfl, h⟩
  go_wp2_with fail
  go_ret
  exact ⟨A2, c2, ret_slice2 (by simp), h⟩
end Go.Proofs.YtfeodppdmbideaaGreatDoor
namespace Go.Proofs.YtfeodppdmbideaaGreatDoor
open Go.RowKit

/-- A node that may be written. -/
def ONodeOk (x : Node3) : Prop := (0 ≤ x.1 ∧ x.1 ≤ 255) ∧ (0 ≤ x.2.1 ∧ x.2.1 ≤ 1048576) ∧ 0 ≤ x.2.2 ∧ x.2.2 ≤ 1048576
def flatT (t : List Node3) : List Int := t.flatMap fun x => [x.1, x.2.1, x.2.2]
theorem flatT_snoc (t : List Node3) (x : Node3) : flatT (t ++ [x]) = flatT t ++ [x.1, x.2.1, x.2.2] := by unfold flatT; rw [List.flatMap_append]; simp
theorem flatT_len (t : List Node3) : (flatT t).length = 3 * t.length := by
  induction t with
  | nil => rfl
  | cons x t ih =>
    have e : flatT (x :: t) = [x.1, x.2.1, x.2.2] ++ flatT t := by unfold flatT; rw [List.flatMap_cons]
    rw [e, List.length_append, ih, List.length_cons]
    simp; omega
theorem flatT_take {t : List Node3} {k : Nat} (h : k < t.length) : flatT (t.take (k + 1)) = flatT (t.take k) ++ [t[k].1, t[k].2.1, t[k].2.2] := by
  rw [List.take_succ_eq_append_getElem h, flatT_snoc]
def WideT (t : List Node3) : Prop := ∀ x ∈ t, (-9223372036854775808 ≤ x.1 ∧ x.1 ≤ 9223372036854775807) ∧ (-9223372036854775808 ≤ x.2.1 ∧ x.2.1 ≤ 9223372036854775807) ∧ -9223372036854775808 ≤ x.2.2 ∧ x.2.2 ≤ 9223372036854775807
theorem lebs_append (l r : List Int) : lebs (l ++ r) = lebs l ++ lebs r := by unfold lebs; rw [List.flatMap_append]
theorem wide_flat {t : List Node3} (h : WideT t) : Wide (flatT t) := by
  intro y hy
  obtain ⟨x, hx, hy⟩ := List.mem_flatMap.1 hy
  have h1 := h x hx
  simp only [List.mem_cons, List.not_mem_nil, or_false] at hy
  rcases hy with rfl | rfl | rfl
  · exact h1.1
  · exact h1.2.1
  · exact h1.2.2
/-- A row's form. -/
def lebT (t : List Node3) : List Nat := leb t.length ++ lebs (flatT t)

/-- What Row answers. -/
def RowPost (b : List Nat) (t : List Node3) (w : World) (e : Ending) (w' : World) : Prop :=
  (4096 < t.length ∧ e = .returned (.tuple #[.slice none 0 0, .int .i64 9]) ∧ Below w.heap.size w w') ∨
  (t.length ≤ 4096 ∧ (∀ x ∈ t, ONodeOk x) ∧ ∃ A c, e = .returned (.tuple #[.slice A (b ++ lebT t).length c, .int .i64 0]) ∧ w'.ownsRow w.heap.size 5 1 (.slice A (b ++ lebT t).length c) (b ++ lebT t).length (bytesV (b ++ lebT t)) ∧ Slice A (b ++ lebT t).length c ∧ Below w.heap.size w w') ∨
  (t.length ≤ 4096 ∧ (¬ ∀ x ∈ t, ONodeOk x) ∧ e = .returned (.tuple #[.slice none 0 0, .int .i64 1]) ∧ Below w.heap.size w w')

end Go.Proofs.YtfeodppdmbideaaGreatDoor
namespace Go.Proofs.YtfeodppdmbideaaGreatDoor
open Go.RowKit

set_option maxHeartbeats 1000000 in
theorem oput_any (A B : Option Addr) (c d : Nat) (b : List Nat) (l : List Int) (w : World) (hs : Slice A b.length c) (hA : Holds w A (bytesV b)) (hB : Holds w B (intsV l)) (hl : Wide l)
    (hb1 : b.length ≤ 1000000) (hl1 : l.length ≤ 1000000) :
    Calls Tryz.prog 182 #[.slice A b.length c, .slice B l.length d] w (OPutPost b l w) := by
  have HW := Lib.hid hl
  clear hl
  go_enter Tryz.func182, Tryz.ntmps182
  go_wp2_with fail
  refine (clone_any A c b w hs hA hb1).mono ?_
  rintro e w1 ⟨A1, c1, rfl, hown1, hb1⟩
  go_wp2_with fail
  go_loopw [6, 13] (fun v i wr => ∃ k : Nat, i = .int .i64 k ∧ k ≤ l.length ∧ Hid (∀ j (h : j < l.length), j < k → 0 ≤ l[j]) ∧ wr.ownsRow w.heap.size 5 1 v (b ++ lebs (l.take k)).length (bytesV (b ++ lebs (l.take k))) ∧ Below w.heap.size w wr) (fun _ i _ => l.length - (intOf i).toNat)
  case atStart => exact ⟨0, rfl, Nat.zero_le _, fun j _ h => absurd h (by omega), by simpa [lebs] using hown1, hb1⟩
  case round =>
    clear hown1 hb1
    obtain ⟨k, rfl, hk, HP, hown, hb⟩ := hrel
    by_cases hlt : k < l.length
    · obtain ⟨g, o, rfl, hc⟩ := (hB.below hb) (by rw [intsV_len]; omega)
      have h1 := hc k _ (intsV_get hlt)
      have hx := HW.out _ (List.getElem_mem hlt)
      have hst := lebs_take hlt
      have hlen : (b ++ lebs (l.take k)).length ≤ 11000000 := by
        have := lebs_len (l := l.take k) (fun x hx => HW.out x (List.mem_of_mem_take hx))
        rw [List.length_take] at this
        rw [List.length_append]
        omega
      by_cases hneg : l[k] < 0
      · have hno : ¬ ∀ x ∈ l, 0 ≤ x := fun h => by have := h _ (List.getElem_mem hlt); omega
        have HNO := Lib.hid hno
        clear hno hst
        generalize l[k] = x at *
        go_wp2_with fail
        go_ret2
        exact .inr ⟨HNO.out, rfl, hb⟩
      · have HPN : Hid (∀ j (h : j < l.length), j < k + 1 → 0 ≤ l[j]) := fun j h hj => by
          by_cases e : j = k
          · subst e; omega
          · exact HP.out j h (by omega)
        generalize l[k] = x at *
        obtain ⟨n, rfl⟩ : ∃ n : Nat, x = n := ⟨x.toNat, by omega⟩
        rw [Int.toNat_natCast] at hst
        have HST := Lib.hid hst
        have hnb : n < 18446744073709551616 := by omega
        clear hst hc
        have HC := Lib.hid (appendForm_any w.heap.size _ _ n w wr hown hb hb.size hnb (by omega))
        clear hlen
        go_wp2_with fail
        refine (HC.out).mono ?_
        rintro e w2 ⟨A2, c2, rfl, hown2, _, hb2, _⟩
        go_wp2_with fail
        go_roundw
        case rel => exact ⟨k + 1, by go_num, by omega, HPN, by rw [HST.out, ← List.append_assoc]; simpa [Nat.add_assoc] using hown2, hb2⟩
        case measure => simp [intOf] <;> omega
    · have hk' : k = l.length := by omega
      subst hk'
      rw [List.take_length] at hown
      have hall : ∀ x ∈ l, 0 ≤ x := fun x hx => by
        obtain ⟨j, hj, rfl⟩ := List.mem_iff_getElem.1 hx
        exact HP.out j hj hj
      have HA := Lib.hid hall
      clear hall
      obtain ⟨A3, c3, rfl, hs3, _⟩ := own_slice hown
      go_wp2_with fail
      go_ret2
      exact .inl ⟨HA.out, A3, c3, rfl, hown, hs3, hb⟩
end Go.Proofs.YtfeodppdmbideaaGreatDoor
