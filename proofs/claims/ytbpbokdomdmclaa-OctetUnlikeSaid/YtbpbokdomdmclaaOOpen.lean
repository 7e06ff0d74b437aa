/- Arguments opened: bytes, ints, rows of nodes, rows of reads; and what a law's row asks behind a call that left all that was there. -/
import Derived.Test.YtbpbokdomdmclaaOAwake
import Derived.ProofKit
import Derived.ChangeSame
import Derived.Deep.Slices
namespace Go.Proofs.Ytbpbokdomdmclaa
open Go.ChangeShapes Go.WideShapes Go.ChangeAt Go.RowKit

theorem Try.own : ownKnob Try.prog.godebug = none := by kernel_rfl
theorem Try.laidOut : laidOutB Try.prog = true := by kernel_rfl
theorem Try.cellsByte : Try.prog.cellsOf 5 = 1 := by kernel_rfl
theorem Try.cellsInt : Try.prog.cellsOf 3 = 1 := by kernel_rfl
theorem Try.cellsNode : Try.prog.cellsOf 63 = 3 := by kernel_rfl

section
variable {H : Type} {enc : TypeId × Value → H} {P : Program}
theorem trodAll_below (hl : laidOutB P = true) {W W' : World} (hb : Below W.heap.size W W') : ∀ {ts : List TypeId} {vs : List Value} {ds : List (DataW H)} {ps : List MemPlace}, (ts.all fun t => P.readableRec t && decide (t < P.types.size)) = true →
    DataW.TrodAll enc P W 0 (fun _ => true) true ts vs ds ps → (∀ x ∈ ps, x.block < W.heap.size) → DataW.TrodAll enc P W' 0 (fun b => decide (b < W.heap.size)) true ts vs ds ps
  | [], [], [], _, _, h, _ => h
  | t :: ts, v :: vs, d :: ds, ps, hts, h, hlt => by
    obtain ⟨p, q, h1, h2, rfl⟩ := h
    simp only [List.all_cons, Bool.and_eq_true, decide_eq_true_eq] at hts
    exact ⟨p, q, Below.trod hl hts.1.1 hts.1.2 h1 hb (fun x hx => hlt x (List.mem_append_left _ hx)), trodAll_below hl hb (by simpa using hts.2) h2 (fun x hx => hlt x (List.mem_append_right _ hx)), rfl⟩
end

section
variable {H : Type} {enc : TypeId × Value → H}
theorem i64_wf {n : Int} (h : (Lit.int .i64 n).wf = true) : -9223372036854775808 ≤ n ∧ n ≤ 9223372036854775807 := by
  have h1 : IntKind.i64.min = -9223372036854775808 := rfl
  have h2 : IntKind.i64.max = 9223372036854775807 := rfl
  simp only [Lit.wf, Bool.and_eq_true, decide_eq_true_eq] at h
  omega
theorem open_bytes {W : World} {base : Nat} {v : Value} {d : DataW H} {p : List MemPlace} (hv : Value.okWide Try.prog W .any base 22 v) (h : DataW.Trod enc Try.prog W 0 (fun _ => true) true 22 v d p) :
    ∃ A c b, v = .slice A b.length c ∧ Slice A b.length c ∧ Holds W A (bytesV b) ∧ Bytes b := by
  obtain ⟨A, n, c, rfl⟩ := okWide_slice Try.underlying22 hv
  obtain ⟨fuel, hf⟩ := h
  rcases open_ints Try.underlying22 Try.underlying5 Try.cellsByte hf with ⟨hcs, _⟩ | ⟨a, len, cap, zs, hcs, _, hl, hm, hz, _, hcell, hwz⟩
  · simp [Value.cells] at hcs
    obtain ⟨rfl, rfl, rfl⟩ := hcs
    exact ⟨none, 0, [], rfl, slice_nil, Holds.nil _ _, fun x hx => by cases hx⟩
  · simp [Value.cells] at hcs
    obtain ⟨rfl, rfl, rfl⟩ := hcs
    simp only [if_true] at hz
    have hwf : ∀ z ∈ zs, 0 ≤ z ∧ z < 256 := by
      intro z hz
      have hw := hwz _ hz
      have h1 : IntKind.u8.min = 0 := rfl
      have h2 : IntKind.u8.max = 255 := rfl
      simp only [Lit.wf, Bool.and_eq_true, decide_eq_true_eq] at hw
      omega
    have hlen : ((zs.take n).map Int.toNat).length = n := by rw [List.length_map, List.length_take]; omega
    refine ⟨some a, c, (zs.take n).map Int.toNat, by rw [hlen], ⟨by rw [hlen]; exact hl, hm, fun h => (by cases h)⟩, fun hn => ?_, fun x hx => ?_⟩
    · rw [bytesV_len, hlen] at hn
      obtain ⟨b, off, spot⟩ := a
      have hspot : spot = none := by simpa [Addr.add] using World.cell?_spot (hcell 0 (by omega))
      subst hspot
      refine ⟨b, off, rfl, fun j u hu => ?_⟩
      have hj : j < n := by
        have := (List.getElem?_eq_some_iff.1 hu).1
        rw [bytesV_len, hlen] at this
        exact this
      have hjz : j < zs.length := by omega
      have hc := hcell j hjz
      rw [add_off] at hc
      rw [hc]
      rw [bytesV_get (by rw [hlen]; exact hj)] at hu
      rw [← hu, List.getElem_map, List.getElem_take]
      have hmem : zs[j] ∈ zs := List.getElem_mem hjz
      have := hwf _ hmem
      rw [List.getD_eq_getElem?_getD, List.getElem?_eq_getElem hjz, Option.getD_some, Int.toNat_of_nonneg this.1]
    · obtain ⟨z, hz, rfl⟩ := List.mem_map.1 hx
      have := hwf z (List.mem_of_mem_take hz)
      omega
theorem open_intsL {W : World} {base : Nat} {v : Value} {d : DataW H} {p : List MemPlace} (hv : Value.okWide Try.prog W .any base 23 v) (h : DataW.Trod enc Try.prog W 0 (fun _ => true) true 23 v d p) :
    ∃ A c l, v = .slice A l.length c ∧ Slice A l.length c ∧ Holds W A (intsV l) ∧ Wide l := by
  obtain ⟨A, n, c, rfl⟩ := okWide_slice Try.underlying23 hv
  obtain ⟨fuel, hf⟩ := h
  rcases open_ints Try.underlying23 Try.underlying3 Try.cellsInt hf with ⟨hcs, _⟩ | ⟨a, len, cap, zs, hcs, _, hl, hm, hz, _, hcell, hwz⟩
  · simp [Value.cells] at hcs
    obtain ⟨rfl, rfl, rfl⟩ := hcs
    exact ⟨none, 0, [], rfl, slice_nil, Holds.nil _ _, fun x hx => by cases hx⟩
  · simp [Value.cells] at hcs
    obtain ⟨rfl, rfl, rfl⟩ := hcs
    simp only [if_true] at hz
    have hlen : (zs.take n).length = n := by rw [List.length_take]; omega
    refine ⟨some a, c, zs.take n, by rw [hlen], ⟨by rw [hlen]; exact hl, hm, fun h => (by cases h)⟩, fun hn => ?_, fun x hx => i64_wf (hwz x (List.mem_of_mem_take hx))⟩
    rw [intsV_len, hlen] at hn
    obtain ⟨b, off, spot⟩ := a
    have hspot : spot = none := by simpa [Addr.add] using World.cell?_spot (hcell 0 (by omega))
    subst hspot
    refine ⟨b, off, rfl, fun j u hu => ?_⟩
    have hj : j < n := by
      have := (List.getElem?_eq_some_iff.1 hu).1
      rw [intsV_len, hlen] at this
      exact this
    have hjz : j < zs.length := by omega
    have hc := hcell j hjz
    rw [add_off] at hc
    rw [hc]
    rw [intsV_get (by rw [hlen]; exact hj)] at hu
    rw [← hu, List.getElem_take, List.getD_eq_getElem?_getD, List.getElem?_eq_getElem hjz, Option.getD_some]

/-- The node whose cells stand from o on. -/
def nodeAt (W : World) (b o i : Nat) : Node3 := let f := fun k => intOf ((W.cell? ⟨b, o + (i * 3 + k), none⟩).getD undef); (f 0, f 1, f 2)
theorem open_nodes {W : World} {base : Nat} {v : Value} {d : DataW H} {p : List MemPlace} (hv : Value.okWide Try.prog W .any base 25 v) (h : DataW.Trod enc Try.prog W 0 (fun _ => true) true 25 v d p) :
    ∃ A c t, v = .slice A t.length c ∧ Slice A t.length c ∧ Holds W A (nodesV t) ∧ WideT t := by
  obtain ⟨A, n, c, rfl⟩ := okWide_slice Try.underlying25 hv
  obtain ⟨fuel, hf⟩ := h
  rcases Deep.open_slice Try.underlying25 hf with ⟨hcs, _⟩ | ⟨a, len, cap, m, q, D, Pl, hcs, _, hl, hm, hmm, _, hi⟩
  · simp [Value.cells] at hcs
    obtain ⟨rfl, rfl, rfl⟩ := hcs
    exact ⟨none, 0, [], rfl, slice_nil, Holds.nil _ _, fun x hx => by cases hx⟩
  · simp [Value.cells] at hcs
    obtain ⟨rfl, rfl, rfl⟩ := hcs
    simp only [if_true] at hmm
    subst hmm
    rw [Try.cellsNode] at hi
    have hel : ∀ i, i < n → ∃ x y z : Int, W.cell? (a.add (i * 3)) = some (.int .i64 x) ∧ W.cell? ((a.add (i * 3)).add 1) = some (.int .i64 y) ∧ W.cell? ((a.add (i * 3)).add 2) = some (.int .i64 z) ∧
        (-9223372036854775808 ≤ x ∧ x ≤ 9223372036854775807) ∧ (-9223372036854775808 ≤ y ∧ y ≤ 9223372036854775807) ∧ -9223372036854775808 ≤ z ∧ z ≤ 9223372036854775807 := by
      intro i hin
      obtain ⟨cs', hc, ht⟩ := hi i (by omega)
      obtain ⟨_, hcl, hat⟩ := World.cells?_some hc
      obtain ⟨xs, k, _, _, _, hxl, hfl⟩ := DataW.trod_struct Try.underlying63 ht
      match cs', hcl with
      | [u0, u1, u2], _ =>
        match xs, hxl with
        | [y0, y1, y2], _ =>
          have g0 := hfl 0 _ rfl
          have g1 := hfl 1 _ rfl
          have g2 := hfl 2 _ rfl
          simp [Try.cellsInt] at g0 g1 g2
          obtain ⟨x, e0, _, w0⟩ := DataW.trod_int Try.underlying3 g0
          obtain ⟨y, e1, _, w1⟩ := DataW.trod_int Try.underlying3 g1
          obtain ⟨z, e2, _, w2⟩ := DataW.trod_int Try.underlying3 g2
          simp at e0 e1 e2
          subst e0 e1 e2
          refine ⟨x, y, z, ?_, hat 1 (by omega), hat 2 (by omega), i64_wf w0, i64_wf w1, i64_wf w2⟩
          have := hat 0 (by omega)
          simpa [Addr.add] using this
    rcases Nat.eq_zero_or_pos n with h0 | h0
    · subst h0
      exact ⟨some a, m, [], rfl, ⟨Nat.zero_le _, hm, fun h => (by cases h)⟩, Holds.nil _ _, fun x hx => by cases hx⟩
    · obtain ⟨b, off, spot⟩ := a
      have hspot : spot = none := by
        obtain ⟨x, _, _, hx, _⟩ := hel 0 h0
        simpa [Addr.add] using World.cell?_spot hx
      subst hspot
      have hnode : ∀ i, i < n → ∃ x y z : Int, nodeAt W b off i = (x, y, z) ∧ W.cell? ⟨b, off + i * 3, none⟩ = some (.int .i64 x) ∧ W.cell? ⟨b, off + i * 3 + 1, none⟩ = some (.int .i64 y) ∧ W.cell? ⟨b, off + i * 3 + 2, none⟩ = some (.int .i64 z) ∧
          (-9223372036854775808 ≤ x ∧ x ≤ 9223372036854775807) ∧ (-9223372036854775808 ≤ y ∧ y ≤ 9223372036854775807) ∧ -9223372036854775808 ≤ z ∧ z ≤ 9223372036854775807 := by
        intro i hin
        obtain ⟨x, y, z, c0, c1, c2, hw⟩ := hel i hin
        rw [add_off] at c0
        rw [add_off, add_off] at c1 c2
        refine ⟨x, y, z, ?_, c0, c1, c2, hw⟩
        unfold nodeAt
        simp only [Nat.add_zero, ← Nat.add_assoc]
        rw [c0, c1, c2]
        rfl
      have hlen : ((List.range n).map (nodeAt W b off)).length = n := by simp
      refine ⟨some ⟨b, off, none⟩, m, (List.range n).map (nodeAt W b off), by rw [hlen], ⟨by rw [hlen]; exact hl, hm, fun h => (by cases h)⟩, fun _ => ⟨b, off, rfl, fun j u hu => ?_⟩, fun x hx => ?_⟩
      · have hj : j < n * 3 := by
          have := (List.getElem?_eq_some_iff.1 hu).1
          rw [nodesV_len, hlen] at this
          exact this
        obtain ⟨i, f, rfl, hf⟩ : ∃ i f, j = i * 3 + f ∧ f < 3 := ⟨j / 3, j % 3, by omega, by omega⟩
        have hin : i < n := by omega
        obtain ⟨x, y, z, hnd, c0, c1, c2, _⟩ := hnode i hin
        rw [nodesV_get (by rw [hlen]; exact hin) hf] at hu
        rw [List.getElem_map, List.getElem_range, hnd] at hu
        rcases (by omega : f = 0 ∨ f = 1 ∨ f = 2) with rfl | rfl | rfl
        · rw [← hu, Nat.add_zero, c0]; rfl
        · rw [← hu, ← Nat.add_assoc, c1]; rfl
        · rw [← hu, ← Nat.add_assoc, c2]; rfl
      · obtain ⟨i, hi, rfl⟩ := List.mem_map.1 hx
        obtain ⟨x, y, z, hnd, _, _, _, hw⟩ := hnode i (List.mem_range.1 hi)
        rw [hnd]
        exact hw
end
end Go.Proofs.Ytbpbokdomdmclaa
