/- Arguments opened: levels, orders, numbers, structs of them; and what a law's row asks behind a call that left all that was there. -/
import Derived.Test.YtdpannjnhhjicaaLAwake
import Derived.ProofKit
import Derived.ChangeSame
import Derived.Deep.Slices
namespace Go.Proofs.Ytdpannjnhhjicaa
open Go.ChangeShapes Go.WideShapes Go.ChangeAt Go.RowKit

theorem Try.own : ownKnob Try.prog.godebug = none := by kernel_rfl
theorem Try.cellsInt : Try.prog.cellsOf 3 = 1 := by kernel_rfl
theorem Try.cellsAtom : Try.prog.cellsOf 57 = 2 := by kernel_rfl
theorem Try.cellsOrder : Try.prog.cellsOf 53 = 3 := by kernel_rfl
theorem Try.cellsTwo : Try.prog.cellsOf 26 = 4 := by kernel_rfl
theorem Try.cellsOrders : Try.prog.cellsOf 39 = 5 := by kernel_rfl
theorem Try.cellsLevel : Try.prog.cellsOf 23 = 1 := by kernel_rfl
theorem Try.cellsInts : Try.prog.cellsOf 24 = 1 := by kernel_rfl
theorem Try.cellsList : Try.prog.cellsOf 37 = 1 := by kernel_rfl

section
variable {H : Type} {enc : TypeId × Value → H} {P : Program}
theorem trodAll_below (hl : laidOutB P = true) {W W' : World} (hb : Below W.heap.size W W') : ∀ {ts : List TypeId} {vs : List Value} {ds : List (DataW H)} {ps : List MemPlace}, (ts.all fun t => P.readableRec t && decide (t < P.types.size)) = true →
    DataW.TrodAll enc P W 0 (fun _ => true) true ts vs ds ps → (∀ x ∈ ps, x.block < W.heap.size) → DataW.TrodAll enc P W' 0 (fun b => decide (b < W.heap.size)) true ts vs ds ps
  | [], [], [], _, _, h, _ => h
  | t :: ts, v :: vs, d :: ds, ps, hts, h, hlt => by
    obtain ⟨p, q, h1, h2, rfl⟩ := h
    simp only [List.all_cons, Bool.and_eq_true, decide_eq_true_eq] at hts
    exact ⟨p, q, Below.trod hl hts.1.1 hts.1.2 h1 hb (fun x hx => hlt x (List.mem_append_left _ hx)), trodAll_below hl hb (by simpa using hts.2) h2 (fun x hx => hlt x (List.mem_append_right _ hx)), rfl⟩
end

section
variable {H : Type} {enc : TypeId × Value → H}
theorem i64_wf {n : Int} (h : (Lit.int .i64 n).wf = true) : I64 n := by
  have h1 : IntKind.i64.min = -9223372036854775808 := rfl
  have h2 : IntKind.i64.max = 9223372036854775807 := rfl
  unfold I64
  simp only [Lit.wf, Bool.and_eq_true, decide_eq_true_eq] at h
  omega
/-- The element whose cells stand from o on. -/
def atomAt (W : World) (b o i : Nat) : Atom2 := let f := fun k => intOf ((W.cell? ⟨b, o + (i * 2 + k), none⟩).getD undef); (f 0, f 1)
theorem atomsT {W : World} {v : Value} {fuel : Nat} {x : DataW H × List MemPlace} (hf : DataW.trod enc Try.prog W 0 (fun _ => true) true fuel 23 [v] = some x) :
    ∃ A n c t, v = .slice A n c ∧ t.length = n ∧ Slice A n c ∧ Holds W A (atomsV t) ∧ WideA t := by
  rcases Deep.open_slice Try.underlying23 hf with ⟨hcs, _⟩ | ⟨a, len, cap, m, q, D, Pl, hcs, _, hl, hm, hmm, _, hi⟩
  · simp at hcs
    subst hcs
    exact ⟨none, 0, 0, [], rfl, rfl, ⟨Nat.le_refl _, by omega, fun _ => ⟨rfl, rfl⟩⟩, Holds.nil _ _, fun x hx => by cases hx⟩
  · simp at hcs
    subst hcs
    simp only [if_true] at hmm
    subst hmm
    rw [Try.cellsAtom] at hi
    have hel : ∀ i, i < len → ∃ x0 x1 : Int, W.cell? (a.add (i * 2)) = some (.int .i64 x0) ∧ W.cell? ((a.add (i * 2)).add 1) = some (.int .i64 x1) ∧ I64 x0 ∧ I64 x1 := by
      intro i hin
      obtain ⟨cs', hc, ht⟩ := hi i (by omega)
      obtain ⟨_, hcl, hat⟩ := World.cells?_some hc
      obtain ⟨xs, k, _, _, _, hxl, hfl⟩ := DataW.trod_struct Try.underlying57 ht
      match cs', hcl with
      | [u0, u1], _ =>
        match xs, hxl with
        | [y0, y1], _ =>
          have g0 := hfl 0 _ rfl
          have g1 := hfl 1 _ rfl
          simp [Try.cellsInt] at g0 g1
          obtain ⟨z0, e0, _, w0⟩ := DataW.trod_int Try.underlying3 g0
          obtain ⟨z1, e1, _, w1⟩ := DataW.trod_int Try.underlying3 g1
          simp at e0 e1
          subst e0 e1
          refine ⟨z0, z1, ?_, hat 1 (by omega), i64_wf w0, i64_wf w1⟩
          have := hat 0 (by omega)
          simpa [Addr.add] using this
    rcases Nat.eq_zero_or_pos len with h0 | h0
    · subst h0
      exact ⟨some a, 0, m, [], rfl, rfl, ⟨Nat.zero_le _, hm, fun h => (by cases h)⟩, Holds.nil _ _, fun x hx => by cases hx⟩
    · obtain ⟨b, off, spot⟩ := a
      have hspot : spot = none := by
        obtain ⟨x, _, hx, _⟩ := hel 0 h0
        simpa [Addr.add] using World.cell?_spot hx
      subst hspot
      have hnode : ∀ i, i < len → ∃ x0 x1 : Int, atomAt W b off i = (x0, x1) ∧ W.cell? ⟨b, off + i * 2, none⟩ = some (.int .i64 x0) ∧ W.cell? ⟨b, off + i * 2 + 1, none⟩ = some (.int .i64 x1) ∧ I64 x0 ∧ I64 x1 := by
        intro i hin
        obtain ⟨x0, x1, c0, c1, hw⟩ := hel i hin
        rw [add_off] at c0
        rw [add_off, add_off] at c1
        refine ⟨x0, x1, ?_, c0, c1, hw⟩
        unfold atomAt
        simp only [Nat.add_zero, ← Nat.add_assoc]
        rw [c0, c1]
        rfl
      have hlen : ((List.range len).map (atomAt W b off)).length = len := by simp
      refine ⟨some ⟨b, off, none⟩, len, m, (List.range len).map (atomAt W b off), rfl, hlen, ⟨hl, hm, fun h => (by cases h)⟩, fun _ => ⟨b, off, rfl, fun j u hu => ?_⟩, fun x hx => ?_⟩
      · have hj : j < len * 2 := by
          have := (List.getElem?_eq_some_iff.1 hu).1
          rw [atomsV_len, hlen] at this
          exact this
        obtain ⟨i, f, rfl, hf⟩ : ∃ i f, j = i * 2 + f ∧ f < 2 := ⟨j / 2, j % 2, by omega, by omega⟩
        have hin : i < len := by omega
        obtain ⟨x0, x1, hnd, c0, c1, _⟩ := hnode i hin
        rw [atomsV_get (by rw [hlen]; exact hin) hf] at hu
        rw [List.getElem_map, List.getElem_range, hnd] at hu
        rcases (by omega : f = 0 ∨ f = 1) with rfl | rfl
        · rw [← hu, Nat.add_zero, c0]; rfl
        · rw [← hu, ← Nat.add_assoc, c1]; rfl
      · obtain ⟨i, hi, rfl⟩ := List.mem_map.1 hx
        obtain ⟨x0, x1, hnd, _, _, hw⟩ := hnode i (List.mem_range.1 hi)
        rw [hnd]
        exact hw
/-- The element whose cells stand from o on. -/
def ordAt (W : World) (b o i : Nat) : Ord3 := let f := fun k => intOf ((W.cell? ⟨b, o + (i * 3 + k), none⟩).getD undef); (f 0, f 1, f 2)
theorem ordersT {W : World} {v : Value} {fuel : Nat} {x : DataW H × List MemPlace} (hf : DataW.trod enc Try.prog W 0 (fun _ => true) true fuel 37 [v] = some x) :
    ∃ A n c t, v = .slice A n c ∧ t.length = n ∧ Slice A n c ∧ Holds W A (ordsV t) ∧ WideO t := by
  rcases Deep.open_slice Try.underlying37 hf with ⟨hcs, _⟩ | ⟨a, len, cap, m, q, D, Pl, hcs, _, hl, hm, hmm, _, hi⟩
  · simp at hcs
    subst hcs
    exact ⟨none, 0, 0, [], rfl, rfl, ⟨Nat.le_refl _, by omega, fun _ => ⟨rfl, rfl⟩⟩, Holds.nil _ _, fun x hx => by cases hx⟩
  · simp at hcs
    subst hcs
    simp only [if_true] at hmm
    subst hmm
    rw [Try.cellsOrder] at hi
    have hel : ∀ i, i < len → ∃ x0 x1 x2 : Int, W.cell? (a.add (i * 3)) = some (.int .i64 x0) ∧ W.cell? ((a.add (i * 3)).add 1) = some (.int .i64 x1) ∧ W.cell? ((a.add (i * 3)).add 2) = some (.int .i64 x2) ∧ I64 x0 ∧ I64 x1 ∧ I64 x2 := by
      intro i hin
      obtain ⟨cs', hc, ht⟩ := hi i (by omega)
      obtain ⟨_, hcl, hat⟩ := World.cells?_some hc
      obtain ⟨xs, k, _, _, _, hxl, hfl⟩ := DataW.trod_struct Try.underlying53 ht
      match cs', hcl with
      | [u0, u1, u2], _ =>
        match xs, hxl with
        | [y0, y1, y2], _ =>
          have g0 := hfl 0 _ rfl
          have g1 := hfl 1 _ rfl
          have g2 := hfl 2 _ rfl
          simp [Try.cellsInt] at g0 g1 g2
          obtain ⟨z0, e0, _, w0⟩ := DataW.trod_int Try.underlying3 g0
          obtain ⟨z1, e1, _, w1⟩ := DataW.trod_int Try.underlying3 g1
          obtain ⟨z2, e2, _, w2⟩ := DataW.trod_int Try.underlying3 g2
          simp at e0 e1 e2
          subst e0 e1 e2
          refine ⟨z0, z1, z2, ?_, hat 1 (by omega), hat 2 (by omega), i64_wf w0, i64_wf w1, i64_wf w2⟩
          have := hat 0 (by omega)
          simpa [Addr.add] using this
    rcases Nat.eq_zero_or_pos len with h0 | h0
    · subst h0
      exact ⟨some a, 0, m, [], rfl, rfl, ⟨Nat.zero_le _, hm, fun h => (by cases h)⟩, Holds.nil _ _, fun x hx => by cases hx⟩
    · obtain ⟨b, off, spot⟩ := a
      have hspot : spot = none := by
        obtain ⟨x, _, _, hx, _⟩ := hel 0 h0
        simpa [Addr.add] using World.cell?_spot hx
      subst hspot
      have hnode : ∀ i, i < len → ∃ x0 x1 x2 : Int, ordAt W b off i = (x0, x1, x2) ∧ W.cell? ⟨b, off + i * 3, none⟩ = some (.int .i64 x0) ∧ W.cell? ⟨b, off + i * 3 + 1, none⟩ = some (.int .i64 x1) ∧ W.cell? ⟨b, off + i * 3 + 2, none⟩ = some (.int .i64 x2) ∧ I64 x0 ∧ I64 x1 ∧ I64 x2 := by
        intro i hin
        obtain ⟨x0, x1, x2, c0, c1, c2, hw⟩ := hel i hin
        rw [add_off] at c0
        rw [add_off, add_off] at c1 c2
        refine ⟨x0, x1, x2, ?_, c0, c1, c2, hw⟩
        unfold ordAt
        simp only [Nat.add_zero, ← Nat.add_assoc]
        rw [c0, c1, c2]
        rfl
      have hlen : ((List.range len).map (ordAt W b off)).length = len := by simp
      refine ⟨some ⟨b, off, none⟩, len, m, (List.range len).map (ordAt W b off), rfl, hlen, ⟨hl, hm, fun h => (by cases h)⟩, fun _ => ⟨b, off, rfl, fun j u hu => ?_⟩, fun x hx => ?_⟩
      · have hj : j < len * 3 := by
          have := (List.getElem?_eq_some_iff.1 hu).1
          rw [ordsV_len, hlen] at this
          exact this
        obtain ⟨i, f, rfl, hf⟩ : ∃ i f, j = i * 3 + f ∧ f < 3 := ⟨j / 3, j % 3, by omega, by omega⟩
        have hin : i < len := by omega
        obtain ⟨x0, x1, x2, hnd, c0, c1, c2, _⟩ := hnode i hin
        rw [ordsV_get (by rw [hlen]; exact hin) hf] at hu
        rw [List.getElem_map, List.getElem_range, hnd] at hu
        rcases (by omega : f = 0 ∨ f = 1 ∨ f = 2) with rfl | rfl | rfl
        · rw [← hu, Nat.add_zero, c0]; rfl
        · rw [← hu, ← Nat.add_assoc, c1]; rfl
        · rw [← hu, ← Nat.add_assoc, c2]; rfl
      · obtain ⟨i, hi, rfl⟩ := List.mem_map.1 hx
        obtain ⟨x0, x1, x2, hnd, _, _, _, hw⟩ := hnode i (List.mem_range.1 hi)
        rw [hnd]
        exact hw
theorem intsT {W : World} {v : Value} {fuel : Nat} {x : DataW H × List MemPlace} (hf : DataW.trod enc Try.prog W 0 (fun _ => true) true fuel 24 [v] = some x) :
    ∃ A n c l, v = .slice A n c ∧ l.length = n ∧ Slice A n c ∧ Holds W A (intsV l) ∧ WideI l := by
  rcases open_ints Try.underlying24 Try.underlying3 Try.cellsInt hf with ⟨hcs, _⟩ | ⟨a, len, cap, zs, hcs, _, hl, hm, hz, _, hcell, hwz⟩
  · simp at hcs
    subst hcs
    exact ⟨none, 0, 0, [], rfl, rfl, ⟨Nat.le_refl _, by omega, fun _ => ⟨rfl, rfl⟩⟩, Holds.nil _ _, fun x hx => by cases hx⟩
  · simp at hcs
    subst hcs
    simp only [if_true] at hz
    have hlen : (zs.take len).length = len := by rw [List.length_take]; omega
    refine ⟨some a, len, cap, zs.take len, rfl, hlen, ⟨hl, hm, fun h => (by cases h)⟩, fun hn => ?_, fun x hx => i64_wf (hwz x (List.mem_of_mem_take hx))⟩
    rw [intsV_len, hlen] at hn
    obtain ⟨b, off, spot⟩ := a
    have hspot : spot = none := by simpa [Addr.add] using World.cell?_spot (hcell 0 (by omega))
    subst hspot
    refine ⟨b, off, rfl, fun j u hu => ?_⟩
    have hj : j < len := by
      have := (List.getElem?_eq_some_iff.1 hu).1
      rw [intsV_len, hlen] at this
      exact this
    have hjz : j < zs.length := by omega
    have hc := hcell j hjz
    rw [add_off] at hc
    rw [hc]
    rw [intsV_get (by rw [hlen]; exact hj)] at hu
    rw [← hu, List.getElem_take, List.getD_eq_getElem?_getD, List.getElem?_eq_getElem hjz, Option.getD_some]
theorem intT {W : World} {v : Value} {fuel : Nat} {x : DataW H × List MemPlace} (hf : DataW.trod enc Try.prog W 0 (fun _ => true) true fuel 3 [v] = some x) : ∃ z, v = .int .i64 z ∧ I64 z := by
  obtain ⟨z, e, _, w⟩ := DataW.trod_int Try.underlying3 hf
  simp at e
  exact ⟨z, e, i64_wf w⟩
theorem open_level {W : World} {base : Nat} {v : Value} {d : DataW H} {p : List MemPlace} (hv : Value.okWide Try.prog W .any base 23 v) (h : DataW.Trod enc Try.prog W 0 (fun _ => true) true 23 v d p) :
    ∃ A n c l, v = .slice A n c ∧ LevelAt W A n c l ∧ WideA l := by
  obtain ⟨A, n, c, rfl⟩ := okWide_slice Try.underlying23 hv
  obtain ⟨fuel, hf⟩ := h
  obtain ⟨A', n', c', l, e, h1, h2, h3, h4⟩ := atomsT (v := .slice A n c) (by simpa [Value.cells] using hf)
  cases e
  exact ⟨A, n, c, l, rfl, ⟨h1, h2, h3⟩, h4⟩
/-- A struct Two: two levels, a number, values. -/
theorem open_two {W : World} {base : Nat} {v : Value} {d : DataW H} {p : List MemPlace} (hv : Value.okWide Try.prog W .any base 26 v) (h : DataW.Trod enc Try.prog W 0 (fun _ => true) true 26 v d p) :
    ∃ (A B C : Option Addr) (n m k c e f : Nat) (a b : List Atom2) (z : Int) (vals : List Int), v = .agg #[.slice A n c, .slice B m e, .int .i64 z, .slice C k f] ∧ LevelAt W A n c a ∧ WideA a ∧ LevelAt W B m e b ∧ WideA b ∧ I64 z ∧ vals.length = k ∧ Slice C k f ∧ Holds W C (intsV vals) ∧ WideI vals := by
  obtain ⟨cs, rfl, hsz⟩ := okWide_struct Try.underlying26 hv
  obtain ⟨l⟩ := cs
  match l, hsz.trans Try.cellsTwo with
  | [c0, c1, c2, c3], _ =>
    obtain ⟨fuel, hf⟩ := h
    obtain ⟨xs, n, _, _, _, hlen, hg⟩ := DataW.trod_struct Try.underlying26 hf
    match xs, hlen with
    | [y0, y1, y2, y3], _ =>
      have g0 := hg 0 _ rfl
      have g1 := hg 1 _ rfl
      have g2 := hg 2 _ rfl
      have g3 := hg 3 _ rfl
      simp [Value.cells, Try.cellsLevel, Try.cellsInt, Try.cellsInts] at g0 g1 g2 g3
      obtain ⟨A, n, c, a, rfl, a1, a2, a3, a4⟩ := atomsT g0
      obtain ⟨B, m, e, b, rfl, b1, b2, b3, b4⟩ := atomsT g1
      obtain ⟨z, rfl, hz⟩ := intT g2
      obtain ⟨C, k, f, vals, rfl, d1, d2, d3, d4⟩ := intsT g3
      exact ⟨A, B, C, n, m, k, c, e, f, a, b, z, vals, rfl, ⟨a1, a2, a3⟩, a4, ⟨b1, b2, b3⟩, b4, hz, d1, d2, d3, d4⟩
/-- A struct Orders: variables, orders, values, two variables. -/
theorem open_orders5 {W : World} {base : Nat} {v : Value} {d : DataW H} {p : List MemPlace} (hv : Value.okWide Try.prog W .any base 39 v) (h : DataW.Trod enc Try.prog W 0 (fun _ => true) true 39 v d p) :
    ∃ (A C : Option Addr) (n k c f : Nat) (x lo hi : Int) (E : List Ord3) (vals : List Int), v = .agg #[.int .i64 x, .slice A n c, .slice C k f, .int .i64 lo, .int .i64 hi] ∧ E.length = n ∧ Slice A n c ∧ Holds W A (ordsV E) ∧ WideO E ∧ vals.length = k ∧ Slice C k f ∧ Holds W C (intsV vals) ∧ WideI vals ∧ I64 x ∧ I64 lo ∧ I64 hi := by
  obtain ⟨cs, rfl, hsz⟩ := okWide_struct Try.underlying39 hv
  obtain ⟨l⟩ := cs
  match l, hsz.trans Try.cellsOrders with
  | [c0, c1, c2, c3, c4], _ =>
    obtain ⟨fuel, hf⟩ := h
    obtain ⟨xs, n, _, _, _, hlen, hg⟩ := DataW.trod_struct Try.underlying39 hf
    match xs, hlen with
    | [y0, y1, y2, y3, y4], _ =>
      have g0 := hg 0 _ rfl
      have g1 := hg 1 _ rfl
      have g2 := hg 2 _ rfl
      have g3 := hg 3 _ rfl
      have g4 := hg 4 _ rfl
      simp [Value.cells, Try.cellsList, Try.cellsInt, Try.cellsInts] at g0 g1 g2 g3 g4
      obtain ⟨x, rfl, hx⟩ := intT g0
      obtain ⟨A, n, c, E, rfl, a1, a2, a3, a4⟩ := ordersT g1
      obtain ⟨C, k, f, vals, rfl, d1, d2, d3, d4⟩ := intsT g2
      obtain ⟨lo, rfl, hlo⟩ := intT g3
      obtain ⟨hi, rfl, hhi⟩ := intT g4
      exact ⟨A, C, n, k, c, f, x, lo, hi, E, vals, rfl, a1, a2, a3, a4, d1, d2, d3, d4, hx, hlo, hhi⟩
end
end Go.Proofs.Ytdpannjnhhjicaa
