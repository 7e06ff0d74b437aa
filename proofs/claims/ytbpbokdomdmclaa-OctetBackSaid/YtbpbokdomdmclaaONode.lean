/- Rows of nodes as cells. -/
import Derived.Test.YtbpbokdomdmclaaOSign
namespace Go.Proofs.Ytbpbokdomdmclaa
open Go.RowKit

abbrev Node3 := Int × Int × Int
/-- A node's three cells. -/
def nodeV (x : Node3) : List Value := [.int .i64 x.1, .int .i64 x.2.1, .int .i64 x.2.2]
def nodesV (t : List Node3) : List Value := t.flatMap nodeV
theorem nodesV_cons (x : Node3) (t : List Node3) : nodesV (x :: t) = nodeV x ++ nodesV t := by unfold nodesV; rw [List.flatMap_cons]
theorem nodesV_snoc (t : List Node3) (x : Node3) : nodesV (t ++ [x]) = nodesV t ++ nodeV x := by unfold nodesV; rw [List.flatMap_append]; simp
theorem nodesV_len (t : List Node3) : (nodesV t).length = t.length * 3 := by
  induction t with
  | nil => rfl
  | cons x t ih => rw [nodesV_cons, List.length_append, ih, List.length_cons]; simp [nodeV]; omega
theorem nodesV_get {t : List Node3} {j f : Nat} (h : j < t.length) (hf : f < 3) : (nodesV t)[j * 3 + f]? = (nodeV t[j])[f]? := by
  induction t generalizing j with
  | nil => simp at h
  | cons x t ih =>
    rw [nodesV_cons]
    cases j with
    | zero => rw [List.getElem?_append_left (by simp [nodeV]; omega)]; simp
    | succ j =>
      rw [List.getElem?_append_right (by simp [nodeV]; omega), show (j + 1) * 3 + f - (nodeV x).length = j * 3 + f by simp [nodeV]; omega, ih (by simpa using h)]
      rfl
theorem nodesV_get0 {t : List Node3} {j : Nat} (h : j < t.length) : (nodesV t)[j * 3]? = some (.int .i64 t[j].1) := nodesV_get (f := 0) h (by decide)
theorem nodesV_get1 {t : List Node3} {j : Nat} (h : j < t.length) : (nodesV t)[j * 3 + 1]? = some (.int .i64 t[j].2.1) := nodesV_get (f := 1) h (by decide)
theorem nodesV_get2 {t : List Node3} {j : Nat} (h : j < t.length) : (nodesV t)[j * 3 + 2]? = some (.int .i64 t[j].2.2) := nodesV_get (f := 2) h (by decide)
/-- A node that may be written. -/
def NodeOk (x : Node3) : Prop := (0 ≤ x.1 ∧ x.1 ≤ 255) ∧ (0 ≤ x.2.1 ∧ x.2.1 ≤ 1048576) ∧ 0 ≤ x.2.2 ∧ x.2.2 ≤ 1048576
def flatT (t : List Node3) : List Int := t.flatMap fun x => [x.1, x.2.1, x.2.2]
theorem flatT_snoc (t : List Node3) (x : Node3) : flatT (t ++ [x]) = flatT t ++ [x.1, x.2.1, x.2.2] := by unfold flatT; rw [List.flatMap_append]; simp
theorem flatT_len (t : List Node3) : (flatT t).length = 3 * t.length := by
  induction t with
  | nil => rfl
  | cons x t ih =>
    have e : flatT (x :: t) = [x.1, x.2.1, x.2.2] ++ flatT t := by unfold flatT; rw [List.flatMap_cons]
    rw [e, List.length_append, ih, List.length_cons]
    simp; omega
theorem flatT_take {t : List Node3} {k : Nat} (h : k < t.length) : flatT (t.take (k + 1)) = flatT (t.take k) ++ [t[k].1, t[k].2.1, t[k].2.2] := by
  rw [List.take_succ_eq_append_getElem h, flatT_snoc]
def WideT (t : List Node3) : Prop := ∀ x ∈ t, (-9223372036854775808 ≤ x.1 ∧ x.1 ≤ 9223372036854775807) ∧ (-9223372036854775808 ≤ x.2.1 ∧ x.2.1 ≤ 9223372036854775807) ∧ -9223372036854775808 ≤ x.2.2 ∧ x.2.2 ≤ 9223372036854775807
theorem lebs_append (l r : List Int) : lebs (l ++ r) = lebs l ++ lebs r := by unfold lebs; rw [List.flatMap_append]
theorem wide_flat {t : List Node3} (h : WideT t) : Wide (flatT t) := by
  intro y hy
  obtain ⟨x, hx, hy⟩ := List.mem_flatMap.1 hy
  have h1 := h x hx
  simp only [List.mem_cons, List.not_mem_nil, or_false] at hy
  rcases hy with rfl | rfl | rfl
  · exact h1.1
  · exact h1.2.1
  · exact h1.2.2
/-- A row's form. -/
def lebT (t : List Node3) : List Nat := leb t.length ++ lebs (flatT t)

/-- What Row answers. -/
def RowPost (b : List Nat) (t : List Node3) (w : World) (e : Ending) (w' : World) : Prop :=
  (4096 < t.length ∧ e = .returned (.tuple #[.slice none 0 0, .int .i64 9]) ∧ Below w.heap.size w w') ∨
  (t.length ≤ 4096 ∧ (∀ x ∈ t, NodeOk x) ∧ ∃ A c, e = .returned (.tuple #[.slice A (b ++ lebT t).length c, .int .i64 0]) ∧ w'.ownsRow w.heap.size 5 1 (.slice A (b ++ lebT t).length c) (b ++ lebT t).length (bytesV (b ++ lebT t)) ∧ Slice A (b ++ lebT t).length c ∧ Below w.heap.size w w') ∨
  (t.length ≤ 4096 ∧ (¬ ∀ x ∈ t, NodeOk x) ∧ e = .returned (.tuple #[.slice none 0 0, .int .i64 1]) ∧ Below w.heap.size w w')

theorem rrow_big (A B : Option Addr) (c d : Nat) (b : List Nat) (t : List Node3) (w : World) (h : 4096 < t.length) :
    Calls Try.prog 14 #[.slice A b.length c, .slice B t.length d] w (RowPost b t w) := by
  have h1 : (4096 : Int) < (t.length : Int) := by omega
  go_enter Try.func14, Try.ntmps14
  go_wp2_with fail
  go_ret2
  exact .inl ⟨h, rfl, Below.refl _ _⟩

set_option maxHeartbeats 2000000 in
theorem rrow_some (A B : Option Addr) (c d : Nat) (b : List Nat) (t : List Node3) (w : World) (hs : Slice A b.length c) (hA : Holds w A (bytesV b)) (hB : Holds w B (nodesV t)) (hl : WideT t)
    (hb1 : b.length ≤ 1000000) (h : t.length ≤ 4096) :
    Calls Try.prog 14 #[.slice A b.length c, .slice B t.length d] w (RowPost b t w) := by
  have h1 : ¬ (4096 : Int) < (t.length : Int) := by omega
  have hnb : t.length < 18446744073709551616 := by omega
  have HFM := Lib.hid fun w => form_any t.length w hnb
  have hll := leb_ten hnb
  have HW := Lib.hid hl
  clear hl
  go_enter Try.func14, Try.ntmps14
  have hlit := World.ownsRow_lit (base := w.heap.size) (e := 5) (size := 1) w #[] 0 (Nat.le_refl _) (by unfold maxLen; omega) rfl
  have hb0 : Below w.heap.size w (w.alloc (.cells #[] 5)) := (Below.refl _ _).alloc (Nat.le_refl _) _
  go_wp2_with (at_builtin; refine wpList_append_bytes rfl (.tmp 14) (.tmp 15) _ rfl Try.underlying22 w.heap.size _ [] b rfl hlit A c rfl hs (hA.alloc _) (by simp; omega) w hb0 (by simp) ?_; intro A1 c1 w1 hown1 hs1 hb1 hz1)
  rw [List.nil_append] at hown1 hs1
  refine (HFM.out _).mono ?_
  rintro e w2 ⟨A2, c2, rfl, hown2, hb2⟩
  have hownr := own_below hown1 hb2
  have hbr := below_step hb1 hb2
  obtain ⟨A2', c2', e2, hs2, _⟩ := own_slice hown2
  cases e2
  go_wp2_with (at_builtin; go_must (refine wpList_append_bytes rfl (.tmp 16) (.tmp 20) _ rfl Try.underlying22 w.heap.size _ _ (leb t.length) rfl hownr A2 c2 rfl hs2 (own_holds hown2) (by omega) w hbr hbr.size ?_); intro A3 c3 w3 hown3 hs3 hb3 hz3)
  clear hlit hb0 hown1 hs1 hownr hown2 hs2 hb2 hbr hb1
  go_loopw [6, 7] (fun v i wr => ∃ k : Nat, i = .int .i64 k ∧ k ≤ t.length ∧ Hid (∀ j (h : j < t.length), j < k → NodeOk t[j]) ∧
    wr.ownsRow w.heap.size 5 1 v (b ++ leb t.length ++ lebs (flatT (t.take k))).length (bytesV (b ++ leb t.length ++ lebs (flatT (t.take k)))) ∧ Below w.heap.size w wr) (fun _ i _ => t.length - (intOf i).toNat)
  case atStart => exact ⟨0, rfl, Nat.zero_le _, fun j _ h => absurd h (by omega), by simpa [lebs, flatT] using hown3, hb3⟩
  case round =>
    clear hown3 hs3 hb3 hz3
    obtain ⟨k, rfl, hk, HP, hown, hb⟩ := hrel
    by_cases hlt : k < t.length
    · obtain ⟨g, o, rfl, hc⟩ := (hB.below hb) (by rw [nodesV_len]; omega)
      have s0 := hc (k * 3) _ (nodesV_get0 hlt)
      have s1 := hc (k * 3 + 1) _ (nodesV_get1 hlt)
      have s2 := hc (k * 3 + 2) _ (nodesV_get2 hlt)
      rw [← Nat.add_assoc] at s1 s2
      have hft := flatT_take hlt
      have hwd := HW.out _ (List.getElem_mem hlt)
      have hmem := List.getElem_mem hlt
      have hok : NodeOk t[k] → Hid (∀ j (h : j < t.length), j < k + 1 → NodeOk t[j]) := fun hx j h hj => by
        by_cases e : j = k
        · subst e; exact hx
        · exact HP.out j h (by omega)
      have hno : ¬ NodeOk t[k] → Hid (¬ ∀ x ∈ t, NodeOk x) := fun hx h => hx (h _ hmem)
      generalize t[k] = x at *
      obtain ⟨p, q, r⟩ := x
      simp only at s0 s1 s2 hft hwd
      have HFT := Lib.hid hft
      have HOK := Lib.hid hok
      have HNO := Lib.hid hno
      clear hft hok hno hmem hc
      have hg : g < wr.heap.size := World.block_lt_of_cell? _ _ s0
      have hWl : Wide [p, q, r] := by
        intro y hy
        simp only [List.mem_cons, List.not_mem_nil, or_false] at hy
        rcases hy with rfl | rfl | rfl
        · exact hwd.1
        · exact hwd.2.1
        · exact hwd.2.2
      have hll3 := lebs_len hWl
      have hlen : (lebs (flatT (t.take k))).length ≤ 30 * k := by
        have := lebs_len (l := flatT (t.take k)) (wide_flat fun x hx => HW.out x (List.mem_of_mem_take hx))
        rw [flatT_len, List.length_take] at this
        omega
      have HBB := Lib.hid hb
      have HWD := Lib.hid hwd
      have HWL := Lib.hid hWl
      have HLL := Lib.hid hll3
      have HLE := Lib.hid hlen
      have HOWN := Lib.hid hown
      have HL0 := Lib.hid hll
      clear hb hwd hWl hll3 hlen hown hll
      go_wp2_with fail
      go_region
      have t0 := (World.cell?_alloc_lt wr (.cells #[.int .i64 p, .int .i64 q, .int .i64 r] 3) ⟨g, o + k * 3, none⟩ hg).trans s0
      have t1 := (World.cell?_alloc_lt wr (.cells #[.int .i64 p, .int .i64 q, .int .i64 r] 3) ⟨g, o + k * 3 + 1, none⟩ hg).trans s1
      have t2 := (World.cell?_alloc_lt wr (.cells #[.int .i64 p, .int .i64 q, .int .i64 r] 3) ⟨g, o + k * 3 + 2, none⟩ hg).trans s2
      have hbn : Below w.heap.size w ((wr.alloc (.cells #[.int .i64 p, .int .i64 q, .int .i64 r] 3)).drew) := below_drewN (below_alloc HBB.out _) 1
      have hlV : Holds ((wr.alloc (.cells #[.int .i64 p, .int .i64 q, .int .i64 r] 3)).drew) (some ⟨wr.heap.size, 0, none⟩) (intsV [p, q, r]) := (holds_lit wr (intsV [p, q, r]) 3).drew
      have hownz := (HOWN.out.alloc (.cells #[.int .i64 p, .int .i64 q, .int .i64 r] 3)).drew
      replace t0 : ((wr.alloc (.cells #[.int .i64 p, .int .i64 q, .int .i64 r] 3)).drew).cell? ⟨g, o + k * 3, none⟩ = some (.int .i64 p) := t0
      replace t1 : ((wr.alloc (.cells #[.int .i64 p, .int .i64 q, .int .i64 r] 3)).drew).cell? ⟨g, o + k * 3 + 1, none⟩ = some (.int .i64 q) := t1
      replace t2 : ((wr.alloc (.cells #[.int .i64 p, .int .i64 q, .int .i64 r] 3)).drew).cell? ⟨g, o + k * 3 + 2, none⟩ = some (.int .i64 r) := t2
      generalize (wr.alloc (.cells #[.int .i64 p, .int .i64 q, .int .i64 r] 3)).drew = wz at *
      clear s0 s1 s2 hg
      by_cases x1 : 255 < p
      · have hno := HNO.out fun h => by have := h.1.2; simp only at this; omega
        go_wp2_with fail
        go_ret2
        exact .inr (.inr ⟨h, hno.out, rfl, hbn⟩)
      by_cases x2 : 1048576 < q
      · have hno := HNO.out fun h => by have := h.2.1.2; simp only at this; omega
        go_wp2_with fail
        go_ret2
        exact .inr (.inr ⟨h, hno.out, rfl, hbn⟩)
      by_cases x3 : 1048576 < r
      · have hno := HNO.out fun h => by have := h.2.2.2; simp only at this; omega
        go_wp2_with fail
        go_ret2
        exact .inr (.inr ⟨h, hno.out, rfl, hbn⟩)
      have HPUT := Lib.hid (rput_any none _ 0 3 [] [p, q, r] _ ⟨Nat.le_refl _, by omega, fun _ => ⟨rfl, rfl⟩⟩ (Holds.nil _ _) hlV HWL.out (by simp) (by simp))
      go_wp2_with fail
      refine (HPUT.out).mono ?_
      rintro e w4 hp
      rcases hp with ⟨hall, A4, c4, rfl, hown4, hs4, hb4⟩ | ⟨hno', rfl, hb4⟩
      · rw [List.nil_append] at hown4 hs4
        have hq := HOK.out ⟨⟨hall p (by simp), by simp only; omega⟩, ⟨hall q (by simp), by simp only; omega⟩, hall r (by simp), by simp only; omega⟩
        have hownr := own_below hownz hb4
        have hbr := below_step hbn hb4
        have hh4 := own_holds hown4
        have HL1 := HLL.out
        have HL2 := HLE.out
        have HL3 := HL0.out
        simp only [List.length_cons, List.length_nil] at HL1
        clear hownz hbn hb4 hall hlV HPUT
        go_wp2_with (at_builtin; go_must (refine wpList_append_bytes rfl (.tmp 73) (.tmp 74) _ rfl Try.underlying22 w.heap.size _ _ (lebs [p, q, r]) rfl hownr A4 c4 rfl hs4 hh4 (by rw [List.length_append, List.length_append]; omega) w hbr hbr.size ?_); intro A5 c5 w5 hown5 hs5 hb5 hz5)
        go_roundw
        case rel => exact ⟨k + 1, by go_num, by omega, hq, by rw [HFT.out, lebs_append, ← List.append_assoc]; simpa [Nat.add_assoc] using hown5, hb5⟩
        case measure => simp [intOf] <;> omega
      · have hno := HNO.out fun h => hno' fun x hx => by
          simp only [List.mem_cons, List.not_mem_nil, or_false] at hx
          rcases hx with rfl | rfl | rfl
          · exact h.1.1
          · exact h.2.1.1
          · exact h.2.2.1
        have hbr := below_step hbn hb4
        clear hownz hbn hb4 hlV HPUT
        go_wp2_with fail
        go_ret2
        exact .inr (.inr ⟨h, hno.out, rfl, hbr⟩)
    · have hk' : k = t.length := by omega
      subst hk'
      rw [List.take_length, List.append_assoc] at hown
      have hall : ∀ x ∈ t, NodeOk x := fun x hx => by
        obtain ⟨j, hj, rfl⟩ := List.mem_iff_getElem.1 hx
        exact HP.out j hj hj
      have HA := Lib.hid hall
      clear hall
      obtain ⟨A3, c3, rfl, hs3, _⟩ := own_slice hown
      go_wp2_with fail
      go_ret2
      exact .inr (.inl ⟨h, HA.out, A3, c3, by simp [lebT], hown, hs3, hb⟩)
theorem rrow_any (A B : Option Addr) (c d : Nat) (b : List Nat) (t : List Node3) (w : World) (hs : Slice A b.length c) (hA : Holds w A (bytesV b)) (hB : Holds w B (nodesV t)) (hl : WideT t) (hb1 : b.length ≤ 1000000) :
    Calls Try.prog 14 #[.slice A b.length c, .slice B t.length d] w (RowPost b t w) := by
  rcases Nat.lt_or_ge 4096 t.length with h | h
  · exact rrow_big A B c d b t w h
  · exact rrow_some A B c d b t w hs hA hB hl hb1 h
end Go.Proofs.Ytbpbokdomdmclaa
