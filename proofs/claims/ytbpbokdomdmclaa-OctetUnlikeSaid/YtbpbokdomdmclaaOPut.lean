/- The document's Put and Signed. -/
import Derived.Test.YtbpbokdomdmclaaOForm
import Derived.Test.YtbpbokdomdmclaaOBytes
namespace Go.Proofs.Ytbpbokdomdmclaa
open Go.RowKit

/-- Ints as cells. -/
def intsV (l : List Int) : List Value := l.map fun (x : Int) => Value.int .i64 x
theorem intsV_len (l : List Int) : (intsV l).length = l.length := List.length_map ..
theorem intsV_get {l : List Int} {j : Nat} (h : j < l.length) : (intsV l)[j]? = some (.int .i64 l[j]) := by
  unfold intsV
  rw [List.getElem?_map, List.getElem?_eq_getElem h]; rfl
/-- The forms of numbers, in order. -/
def lebs (l : List Int) : List Nat := l.flatMap fun x => leb x.toNat
theorem lebs_snoc (l : List Int) (x : Int) : lebs (l ++ [x]) = lebs l ++ leb x.toNat := by unfold lebs; rw [List.flatMap_append]; simp
theorem lebs_take {l : List Int} {k : Nat} (h : k < l.length) : lebs (l.take (k + 1)) = lebs (l.take k) ++ leb (l[k]).toNat := by
  rw [List.take_succ_eq_append_getElem h, lebs_snoc]
/-- Ints of 64 bits. -/
def Wide (l : List Int) : Prop := ∀ x ∈ l, -9223372036854775808 ≤ x ∧ x ≤ 9223372036854775807
theorem lebs_len {l : List Int} (h : Wide l) : (lebs l).length ≤ 10 * l.length := by
  induction l with
  | nil => simp [lebs]
  | cons x l ih =>
    have h1 := ih fun y hy => h y (List.mem_cons_of_mem _ hy)
    have h2 := h x List.mem_cons_self
    have h3 := leb_ten (n := x.toNat) (by omega)
    have e : lebs (x :: l) = leb x.toNat ++ lebs l := by unfold lebs; rw [List.flatMap_cons]
    rw [e, List.length_append, List.length_cons]
    omega

/-- What Put answers. -/
def PutPost (b : List Nat) (l : List Int) (w : World) (e : Ending) (w' : World) : Prop :=
  ((∀ x ∈ l, 0 ≤ x) ∧ ∃ A c, e = .returned (.tuple #[.slice A (b ++ lebs l).length c, .int .i64 0]) ∧ w'.ownsRow w.heap.size 5 1 (.slice A (b ++ lebs l).length c) (b ++ lebs l).length (bytesV (b ++ lebs l)) ∧ Slice A (b ++ lebs l).length c ∧ Below w.heap.size w w') ∨
  ((¬ ∀ x ∈ l, 0 ≤ x) ∧ e = .returned (.tuple #[.slice none 0 0, .int .i64 1]) ∧ Below w.heap.size w w')

set_option maxHeartbeats 1000000 in
theorem rput_any (A B : Option Addr) (c d : Nat) (b : List Nat) (l : List Int) (w : World) (hs : Slice A b.length c) (hA : Holds w A (bytesV b)) (hB : Holds w B (intsV l)) (hl : Wide l)
    (hb1 : b.length ≤ 1000000) (hl1 : l.length ≤ 1000000) :
    Calls Try.prog 12 #[.slice A b.length c, .slice B l.length d] w (PutPost b l w) := by
  go_enter Try.func12, Try.ntmps12
  have hlit := World.ownsRow_lit (base := w.heap.size) (e := 5) (size := 1) w #[] 0 (Nat.le_refl _) (by unfold maxLen; omega) rfl
  have hb0 : Below w.heap.size w (w.alloc (.cells #[] 5)) := (Below.refl _ _).alloc (Nat.le_refl _) _
  go_wp2_with (at_builtin; refine wpList_append_bytes rfl (.tmp 8) (.tmp 9) _ rfl Try.underlying22 w.heap.size _ [] b rfl hlit A c rfl hs (hA.alloc _) (by simp; omega) w hb0 (by simp) ?_; intro A1 c1 w1 hown1 hs1 hb1 hz1)
  rw [List.nil_append] at hown1 hs1
  have HW := Lib.hid hl
  clear hlit hb0
  go_loopw [6, 7] (fun v i wr => ∃ k : Nat, i = .int .i64 k ∧ k ≤ l.length ∧ Hid (∀ j (h : j < l.length), j < k → 0 ≤ l[j]) ∧ wr.ownsRow w.heap.size 5 1 v (b ++ lebs (l.take k)).length (bytesV (b ++ lebs (l.take k))) ∧ Below w.heap.size w wr) (fun _ i _ => l.length - (intOf i).toNat)
  case atStart => exact ⟨0, rfl, Nat.zero_le _, fun j _ h => absurd h (by omega), by simpa [lebs] using hown1, hb1⟩
  case round =>
    clear hown1 hs1 hb1 hz1
    obtain ⟨k, rfl, hk, HP, hown, hb⟩ := hrel
    by_cases hlt : k < l.length
    · obtain ⟨g, o, rfl, hc⟩ := (hB.below hb) (by rw [intsV_len]; omega)
      have h1 := hc k _ (intsV_get hlt)
      have hx := HW.out _ (List.getElem_mem hlt)
      have hst := lebs_take hlt
      have hlen : (lebs (l.take k)).length ≤ 10 * k := by
        have := lebs_len (l := l.take k) (fun x hx => HW.out x (List.mem_of_mem_take hx))
        rw [List.length_take] at this
        omega
      by_cases hneg : l[k] < 0
      · have hno : ¬ ∀ x ∈ l, 0 ≤ x := fun h => by have := h _ (List.getElem_mem hlt); omega
        have HNO := Lib.hid hno
        clear hno hst
        generalize l[k] = x at *
        go_wp2_with fail
        go_ret2
        exact .inr ⟨HNO.out, rfl, hb⟩
      · have HPN : Hid (∀ j (h : j < l.length), j < k + 1 → 0 ≤ l[j]) := fun j h hj => by
          by_cases e : j = k
          · subst e; omega
          · exact HP.out j h (by omega)
        generalize l[k] = x at *
        obtain ⟨n, rfl⟩ : ∃ n : Nat, x = n := ⟨x.toNat, by omega⟩
        rw [Int.toNat_natCast] at hst
        have HST := Lib.hid hst
        have hnb : n < 18446744073709551616 := by omega
        have hll := leb_ten hnb
        clear hst hc
        go_wp2_with fail
        refine (form_any n _ hnb).mono ?_
        rintro e w2 ⟨A2, c2, rfl, hown2, hb2⟩
        have hownr := own_below hown hb2
        have hbr := below_step hb hb2
        obtain ⟨A2', c2', e2, hs2, _⟩ := own_slice hown2
        cases e2
        go_wp2_with (at_builtin; go_must (refine wpList_append_bytes rfl (.tmp 22) (.tmp 28) _ rfl Try.underlying22 w.heap.size _ _ (leb n) rfl hownr A2 c2 rfl hs2 (own_holds hown2) (by rw [List.length_append]; omega) w hbr hbr.size ?_); intro A3 c3 w3 hown3 hs3 hb3 hz3)
        go_roundw
        case rel => exact ⟨k + 1, by go_num, by omega, HPN, by rw [HST.out, ← List.append_assoc]; simpa [Nat.add_assoc] using hown3, hb3⟩
        case measure => simp [intOf] <;> omega
    · have hk' : k = l.length := by omega
      subst hk'
      rw [List.take_length] at hown
      have hall : ∀ x ∈ l, 0 ≤ x := fun x hx => by
        obtain ⟨j, hj, rfl⟩ := List.mem_iff_getElem.1 hx
        exact HP.out j hj hj
      have HA := Lib.hid hall
      clear hall
      obtain ⟨A3, c3, rfl, hs3, _⟩ := own_slice hown
      go_wp2_with fail
      go_ret2
      exact .inl ⟨HA.out, A3, c3, rfl, hown, hs3, hb⟩
end Go.Proofs.Ytbpbokdomdmclaa
