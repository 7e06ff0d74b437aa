/- The program's Row. -/
import Derived.Test.YtbpbokdomdmclaaODevPut
namespace Go.Proofs.Ytbpbokdomdmclaa
open Go.RowKit

theorem lebs_cons (x : Int) (l : List Int) : lebs (x :: l) = leb x.toNat ++ lebs l := by unfold lebs; rw [List.flatMap_cons]
theorem flatT_mem {t : List Node3} {x : Node3} (h : x ∈ t) : x.1 ∈ flatT t ∧ x.2.1 ∈ flatT t ∧ x.2.2 ∈ flatT t := by
  unfold flatT
  exact ⟨List.mem_flatMap.2 ⟨x, h, by simp⟩, List.mem_flatMap.2 ⟨x, h, by simp⟩, List.mem_flatMap.2 ⟨x, h, by simp⟩⟩
/-- A node that is not too great. -/
def NodeLow (x : Node3) : Prop := x.1 ≤ 255 ∧ x.2.1 ≤ 1048576 ∧ x.2.2 ≤ 1048576
/-- A row's Put is the row's form. -/
theorem row_of_put {b : List Nat} {t : List Node3} {w w1 : World} {e : Ending} {w' : World} (h : t.length ≤ 4096) (hlow : ∀ x ∈ t, NodeLow x) (hw : Below w.heap.size w w1)
    (hp : PutPost b ((t.length : Int) :: flatT t) w1 e w') : RowPost b t w e w' := by
  have eb : b ++ lebs ((t.length : Int) :: flatT t) = b ++ lebT t := by rw [lebs_cons]; rfl
  rcases hp with ⟨hall, A, c, he, hown, hs, hb⟩ | ⟨hno, he, hb⟩
  · rw [eb] at he hown hs
    refine .inr (.inl ⟨h, fun x hx => ?_, A, c, he, own_base hown hw.size, hs, below_step hw hb⟩)
    have h1 := flatT_mem hx
    have h2 := hlow x hx
    exact ⟨⟨hall _ (List.mem_cons_of_mem _ h1.1), h2.1⟩, ⟨hall _ (List.mem_cons_of_mem _ h1.2.1), h2.2.1⟩, hall _ (List.mem_cons_of_mem _ h1.2.2), h2.2.2⟩
  · refine .inr (.inr ⟨h, fun hok => hno fun x hx => ?_, he, below_step hw hb⟩)
    rcases List.mem_cons.1 hx with rfl | hx
    · exact Int.natCast_nonneg _
    · obtain ⟨y, hy, hx⟩ := List.mem_flatMap.1 hx
      have h3 := hok y hy
      simp only [List.mem_cons, List.not_mem_nil, or_false] at hx
      rcases hx with rfl | rfl | rfl
      · exact h3.1.1
      · exact h3.2.1.1
      · exact h3.2.2.1
theorem orow_big (A B : Option Addr) (c d : Nat) (b : List Nat) (t : List Node3) (w : World) (h : 4096 < t.length) :
    Calls Try.prog 13 #[.slice A b.length c, .slice B t.length d] w (RowPost b t w) := by
  have h1 : (4096 : Int) < (t.length : Int) := by omega
  go_enter Try.func13, Try.ntmps13
  go_wp2_with fail
  go_ret2
  exact .inl ⟨h, rfl, Below.refl _ _⟩

set_option maxHeartbeats 2000000 in
theorem orow_some (A B : Option Addr) (c d : Nat) (b : List Nat) (t : List Node3) (w : World) (hs : Slice A b.length c) (hA : Holds w A (bytesV b)) (hB : Holds w B (nodesV t)) (hl : WideT t)
    (hb1 : b.length ≤ 1000000) (h : t.length ≤ 4096) :
    Calls Try.prog 13 #[.slice A b.length c, .slice B t.length d] w (RowPost b t w) := by
  have h1 : ¬ (4096 : Int) < (t.length : Int) := by omega
  have HW := Lib.hid hl
  clear hl
  obtain ⟨L, hL⟩ : ∃ L, L = t.length := ⟨_, rfl⟩
  rw [← hL] at h h1 ⊢
  have HL := Lib.hid hL
  clear hL
  go_enter Try.func13, Try.ntmps13
  have hlit := World.ownsRow_lit (base := w.heap.size) (e := 3) (size := 1) w #[.int .i64 L] 1 (Nat.le_refl _) (by unfold maxLen; omega) rfl
  have hb0 : Below w.heap.size w (w.alloc (.cells #[.int .i64 L] 3)) := (Below.refl _ _).alloc (Nat.le_refl _) _
  go_wp2_with fail
  go_loopw [6, 17] (fun v i wr => ∃ k : Nat, i = .int .i64 k ∧ k ≤ L ∧ Hid (∀ j (h : j < t.length), j < k → NodeLow t[j]) ∧
    wr.ownsRow w.heap.size 3 1 v (1 + 3 * k) (intsV ((L : Int) :: flatT (t.take k))) ∧ Below w.heap.size w wr) (fun _ i _ => L - (intOf i).toNat)
  case atStart => exact ⟨0, rfl, Nat.zero_le _, fun j _ h => absurd h (by omega), by simpa [intsV, flatT] using hlit, hb0⟩
  case round =>
    clear hlit hb0
    obtain ⟨k, rfl, hk, HP, hown, hb⟩ := hrel
    by_cases hlt : k < L
    · have hltt : k < t.length := by have := HL.out; omega
      obtain ⟨g, o, rfl, hc⟩ := (hB.below hb) (by rw [nodesV_len]; omega)
      have s0 := hc (k * 3) _ (nodesV_get0 hltt)
      have s1 := hc (k * 3 + 1) _ (nodesV_get1 hltt)
      have s2 := hc (k * 3 + 2) _ (nodesV_get2 hltt)
      rw [← Nat.add_assoc] at s1 s2
      have hft := flatT_take hltt
      have hwd := HW.out _ (List.getElem_mem hltt)
      have hmem := List.getElem_mem hltt
      have hok : NodeLow t[k] → Hid (∀ j (h : j < t.length), j < k + 1 → NodeLow t[j]) := fun hx j h hj => by
        by_cases e : j = k
        · subst e; exact hx
        · exact HP.out j h (by omega)
      have hno : ¬ NodeLow t[k] → Hid (¬ ∀ x ∈ t, NodeOk x) := fun hx h => hx ⟨(h _ hmem).1.2, (h _ hmem).2.1.2, (h _ hmem).2.2.2⟩
      generalize t[k] = x at *
      obtain ⟨p, q, r⟩ := x
      simp only at s0 s1 s2 hft hwd
      have HFT := Lib.hid hft
      have HOK := Lib.hid hok
      have HNO := Lib.hid hno
      have HH : Hid (t.length ≤ 4096) := by have := HL.out; show _ ≤ _; omega
      clear hft hok hno hmem hc hltt
      by_cases x1 : 255 < p
      · have hno := HNO.out fun h => by have := h.1; simp only at this; omega
        go_wp2_with fail
        go_ret2
        exact .inr (.inr ⟨HH.out, hno.out, rfl, below_alloc hb _⟩)
      by_cases x2 : 1048576 < q
      · have hno := HNO.out fun h => by have := h.2.1; simp only at this; omega
        go_wp2_with fail
        go_ret2
        exact .inr (.inr ⟨HH.out, hno.out, rfl, below_alloc hb _⟩)
      by_cases x3 : 1048576 < r
      · have hno := HNO.out fun h => by have := h.2.2; simp only at this; omega
        go_wp2_with fail
        go_ret2
        exact .inr (.inr ⟨HH.out, hno.out, rfl, below_alloc hb _⟩)
      have hq := HOK.out ⟨by simp only; omega, by simp only; omega, by simp only; omega⟩
      have hold := holds_lit (wr.alloc (.cells #[.int .i64 p, .int .i64 q, .int .i64 r] 63)) (intsV [p, q, r]) 3
      have hb2 := below_alloc (below_alloc hb (.cells #[.int .i64 p, .int .i64 q, .int .i64 r] 63)) (.cells #[.int .i64 p, .int .i64 q, .int .i64 r] 3)
      have HB2 := Lib.hid hb2
      rw [show (wr.alloc (.cells #[.int .i64 p, .int .i64 q, .int .i64 r] 63)).heap.size = wr.heap.size + 1 by simp] at hold
      have HOLD := Lib.hid hold
      have HOWN := Lib.hid ((hown.alloc (.cells #[.int .i64 p, .int .i64 q, .int .i64 r] 63)).alloc (.cells #[.int .i64 p, .int .i64 q, .int .i64 r] 3))
      clear hold hown hb hb2
      go_wp2_with (at_builtin; go_must (refine wpList_append_cells rfl (.tmp 34) (.tmp 41) _ rfl 3 (.int .i64 0) 1 8 infoInt rfl (by decide) Try.underlying23 w.heap.size _ (1 + 3 * k) 3 _ (intsV [p, q, r]) rfl HOWN.out (some ⟨wr.heap.size + 1, 0, none⟩) 3 rfl ⟨by omega, by omega, fun h => (by cases h)⟩ HOLD.out rfl intsV_one (by omega) (by omega) w HB2.out HB2.out.size ?_); intro A3 c3 w3 hown3 hs3 hb3 hz3 _)
      go_roundw
      case rel => exact ⟨k + 1, by go_num, by omega, hq, by rw [HFT.out]; simpa [intsV, Nat.mul_add, Nat.add_assoc] using hown3, hb3⟩
      case measure => simp [intOf] <;> omega
    · have hk' : k = L := by omega
      subst hk'
      have hlow : ∀ x ∈ t, NodeLow x := fun x hx => by
        obtain ⟨j, hj, rfl⟩ := List.mem_iff_getElem.1 hx
        exact HP.out j hj (by have := HL.out; omega)
      have e1 : ((k : Int) :: flatT (t.take k)) = (t.length : Int) :: flatT t := by rw [HL.out, List.take_length]
      have e2 : 1 + 3 * k = ((t.length : Int) :: flatT t).length := by rw [List.length_cons, flatT_len, HL.out]; omega
      rw [e1, e2] at hown
      obtain ⟨A3, c3, rfl, hs3, _⟩ := own_slice hown
      have hwl : Wide ((t.length : Int) :: flatT t) := fun y hy => by
        rcases List.mem_cons.1 hy with rfl | hy
        · have := HL.out; omega
        · exact wide_flat HW.out y hy
      have HPUT := Lib.hid (oput_any A A3 c c3 b ((t.length : Int) :: flatT t) wr hs (hA.below hb) (own_holds hown) hwl hb1 (by rw [← e2]; omega))
      have HROW := Lib.hid fun e w' (hp : PutPost b ((t.length : Int) :: flatT t) wr e w') => row_of_put (by have := HL.out; omega) hlow hb hp
      generalize ((t.length : Int) :: flatT t).length = n at *
      clear e1 e2 hlow hwl hown
      go_wp2_with fail
      refine (HPUT.out).mono ?_
      intro e w' hp
      have hr := Lib.hid (HROW.out e w' hp)
      have hres : ∃ v f, e = .returned (.tuple #[v, f]) := by
        rcases hp with ⟨_, A, c, he, _⟩ | ⟨_, he, _⟩ <;> exact ⟨_, _, he⟩
      obtain ⟨v, f, rfl⟩ := hres
      clear hp HROW HPUT
      go_wp2_with fail
      go_ret2
      exact hr.out
theorem orow_any (A B : Option Addr) (c d : Nat) (b : List Nat) (t : List Node3) (w : World) (hs : Slice A b.length c) (hA : Holds w A (bytesV b)) (hB : Holds w B (nodesV t)) (hl : WideT t) (hb1 : b.length ≤ 1000000) :
    Calls Try.prog 13 #[.slice A b.length c, .slice B t.length d] w (RowPost b t w) := by
  rcases Nat.lt_or_ge 4096 t.length with h | h
  · exact orow_big A B c d b t w h
  · exact orow_some A B c d b t w hs hA hB hl hb1 h
end Go.Proofs.Ytbpbokdomdmclaa
