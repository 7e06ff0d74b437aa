/- The way to the laws of books: TOpen to TOpen. -/
import Derived.Test.YtfeodppdmbideaaGreatDoorBA17
import Derived.Test.YtfeodppdmbideaaGreatDoorBA28
import Derived.ProofKit
import Derived.ChangeSame
import Derived.Deep.Slices
import Derived.Carry
import Derived.SizedLaws
import Derived.LaidMore
import Derived.OpenShut
namespace Go.Proofs.YtfeodppdmbideaaGreatDoor
open Go.ChangeShapes Go.WideShapes Go.ChangeAt Go.RowKit

theorem Tryz.own : ownKnob Tryz.prog.godebug = none := by kernel_rfl
theorem Tryz.laidOut : laidOutB Tryz.prog = true := by kernel_rfl
theorem Tryz.cellsInt : Tryz.prog.cellsOf 3 = 1 := by kernel_rfl
theorem Tryz.cellsNode : Tryz.prog.cellsOf 67 = 3 := by kernel_rfl

section
variable {H : Type} {enc : TypeId × Value → H} {P : Program}
theorem trodAll_below (hl : laidOutB P = true) {W W' : World} (hb : Below W.heap.size W W') : ∀ {ts : List TypeId} {vs : List Value} {ds : List (DataW H)} {ps : List MemPlace}, (ts.all fun t => P.readableRec t && decide (t < P.types.size)) = true →
    DataW.TrodAll enc P W 0 (fun _ => true) true ts vs ds ps → (∀ x ∈ ps, x.block < W.heap.size) → DataW.TrodAll enc P W' 0 (fun b => decide (b < W.heap.size)) true ts vs ds ps
  | [], [], [], _, _, h, _ => h
  | t :: ts, v :: vs, d :: ds, ps, hts, h, hlt => by
    obtain ⟨p, q, h1, h2, rfl⟩ := h
    simp only [List.all_cons, Bool.and_eq_true, decide_eq_true_eq] at hts
    exact ⟨p, q, Below.trod hl hts.1.1 hts.1.2 h1 hb (fun x hx => hlt x (List.mem_append_left _ hx)), trodAll_below hl hb (by simpa using hts.2) h2 (fun x hx => hlt x (List.mem_append_right _ hx)), rfl⟩
end

section
variable {H : Type} {enc : TypeId × Value → H}
theorem i64_wf {n : Int} (h : (Lit.int .i64 n).wf = true) : -9223372036854775808 ≤ n ∧ n ≤ 9223372036854775807 := by
  have h1 : IntKind.i64.min = -9223372036854775808 := rfl
  have h2 : IntKind.i64.max = 9223372036854775807 := rfl
  simp only [Lit.wf, Bool.and_eq_true, decide_eq_true_eq] at h
  omega
def nodeAt (W : World) (b o i : Nat) : Node3 := let f := fun k => intOf ((W.cell? ⟨b, o + (i * 3 + k), none⟩).getD undef); (f 0, f 1, f 2)
set_option maxRecDepth 100000 in
theorem open_nodes {W : World} {base : Nat} {v : Value} {d : DataW H} {p : List MemPlace} (hv : Value.okWide Tryz.prog W .any base 28 v) (h : DataW.Trod enc Tryz.prog W 0 (fun _ => true) true 28 v d p) :
    ∃ A c t, v = .slice A t.length c ∧ Slice A t.length c ∧ Holds W A (nodesV t) ∧ WideT t := by
  obtain ⟨A, n, c, rfl⟩ := okWide_slice Tryz.underlying28 hv
  obtain ⟨fuel, hf⟩ := h
  rcases Deep.open_slice Tryz.underlying28 hf with ⟨hcs, _⟩ | ⟨a, len, cap, m, q, D, Pl, hcs, _, hl, hm, hmm, _, hi⟩
  · simp [Value.cells] at hcs
    obtain ⟨rfl, rfl, rfl⟩ := hcs
    exact ⟨none, 0, [], rfl, slice_nil, Holds.nil _ _, fun x hx => by cases hx⟩
  · simp [Value.cells] at hcs
    obtain ⟨rfl, rfl, rfl⟩ := hcs
    simp only [if_true] at hmm
    subst hmm
    rw [Tryz.cellsNode] at hi
    have hel : ∀ i, i < n → ∃ x y z : Int, W.cell? (a.add (i * 3)) = some (.int .i64 x) ∧ W.cell? ((a.add (i * 3)).add 1) = some (.int .i64 y) ∧ W.cell? ((a.add (i * 3)).add 2) = some (.int .i64 z) ∧
        (-9223372036854775808 ≤ x ∧ x ≤ 9223372036854775807) ∧ (-9223372036854775808 ≤ y ∧ y ≤ 9223372036854775807) ∧ -9223372036854775808 ≤ z ∧ z ≤ 9223372036854775807 := by
      intro i hin
      obtain ⟨cs', hc, ht⟩ := hi i (by omega)
      obtain ⟨_, hcl, hat⟩ := World.cells?_some hc
      obtain ⟨xs, k, _, _, _, hxl, hfl⟩ := DataW.trod_struct Tryz.underlying67 ht
      match cs', hcl with
      | [u0, u1, u2], _ =>
        match xs, hxl with
        | [y0, y1, y2], _ =>
          have g0 := hfl 0 _ rfl
          have g1 := hfl 1 _ rfl
          have g2 := hfl 2 _ rfl
          simp [Tryz.cellsInt] at g0 g1 g2
          obtain ⟨x, e0, _, w0⟩ := DataW.trod_int Tryz.underlying3 g0
          obtain ⟨y, e1, _, w1⟩ := DataW.trod_int Tryz.underlying3 g1
          obtain ⟨z, e2, _, w2⟩ := DataW.trod_int Tryz.underlying3 g2
          simp at e0 e1 e2
          subst e0 e1 e2
          refine ⟨x, y, z, ?_, hat 1 (by omega), hat 2 (by omega), i64_wf w0, i64_wf w1, i64_wf w2⟩
          have := hat 0 (by omega)
          simpa [Addr.add] using this
    rcases Nat.eq_zero_or_pos n with h0 | h0
    · subst h0
      exact ⟨some a, m, [], rfl, ⟨Nat.zero_le _, hm, fun h => (by cases h)⟩, Holds.nil _ _, fun x hx => by cases hx⟩
    · obtain ⟨b, off, spot⟩ := a
      have hspot : spot = none := by
        obtain ⟨x, _, _, hx, _⟩ := hel 0 h0
        simpa [Addr.add] using World.cell?_spot hx
      subst hspot
      have hnode : ∀ i, i < n → ∃ x y z : Int, nodeAt W b off i = (x, y, z) ∧ W.cell? ⟨b, off + i * 3, none⟩ = some (.int .i64 x) ∧ W.cell? ⟨b, off + i * 3 + 1, none⟩ = some (.int .i64 y) ∧ W.cell? ⟨b, off + i * 3 + 2, none⟩ = some (.int .i64 z) ∧
          (-9223372036854775808 ≤ x ∧ x ≤ 9223372036854775807) ∧ (-9223372036854775808 ≤ y ∧ y ≤ 9223372036854775807) ∧ -9223372036854775808 ≤ z ∧ z ≤ 9223372036854775807 := by
        intro i hin
        obtain ⟨x, y, z, c0, c1, c2, hw⟩ := hel i hin
        rw [add_off] at c0
        rw [add_off, add_off] at c1 c2
        refine ⟨x, y, z, ?_, c0, c1, c2, hw⟩
        unfold nodeAt
        simp only [Nat.add_zero, ← Nat.add_assoc]
        rw [c0, c1, c2]
        rfl
      have hlen : ((List.range n).map (nodeAt W b off)).length = n := by simp
      refine ⟨some ⟨b, off, none⟩, m, (List.range n).map (nodeAt W b off), by rw [hlen], ⟨by rw [hlen]; exact hl, hm, fun h => (by cases h)⟩, fun _ => ⟨b, off, rfl, fun j u hu => ?_⟩, fun x hx => ?_⟩
      · have hj : j < n * 3 := by
          have := (List.getElem?_eq_some_iff.1 hu).1
          rw [nodesV_len, hlen] at this
          exact this
        obtain ⟨i, f, rfl, hf⟩ : ∃ i f, j = i * 3 + f ∧ f < 3 := ⟨j / 3, j % 3, by omega, by omega⟩
        have hin : i < n := by omega
        obtain ⟨x, y, z, hnd, c0, c1, c2, _⟩ := hnode i hin
        rw [nodesV_get (by rw [hlen]; exact hin) hf] at hu
        rw [List.getElem_map, List.getElem_range, hnd] at hu
        rcases (by omega : f = 0 ∨ f = 1 ∨ f = 2) with rfl | rfl | rfl
        · rw [← hu, Nat.add_zero, c0]; rfl
        · rw [← hu, ← Nat.add_assoc, c1]; rfl
        · rw [← hu, ← Nat.add_assoc, c2]; rfl
      · obtain ⟨i, hi, rfl⟩ := List.mem_map.1 hx
        obtain ⟨x, y, z, hnd, _, _, _, hw⟩ := hnode i (List.mem_range.1 hi)
        rw [hnd]
        exact hw

theorem Tryz.bytesNode : Tryz.prog.bytesOf 67 = 24 := by kernel_rfl
/-- A row takes no more than the reach. -/
theorem node_weight {W : World} {A : Option Addr} {n c : Nat} {d : DataW H} {p : List MemPlace} {ts : List TypeId} {ds : List (DataW H)} (hsz : (DataW.weightsEach Tryz.prog ts ds).all (· ≤ reachBytes) = true) {j : Nat} (ht : ts[j]? = some 28) (hd : ds[j]? = some d)
    (h : DataW.Trod enc Tryz.prog W 0 (fun _ => true) true 28 (.slice A n c) d p) (hs : Slice A n c) : n ≤ 4611686018427387904 := by
  obtain ⟨fuel, hf⟩ := h
  rcases Deep.open_slice (cs := [.slice A n c]) Tryz.underlying28 (by simpa [Value.cells] using hf) with ⟨hcs, _⟩ | ⟨a, len, cap, m, q, D, Pl, hcs, _, hl, hm, hmm, hx, _⟩
  · simp at hcs
    omega
  · simp at hcs
    obtain ⟨rfl, rfl, rfl⟩ := hcs
    simp only [if_true] at hmm
    subst hmm
    have hd2 := congrArg Prod.fst hx
    simp only at hd2
    have := sized_slice hsz ht (hd.trans (congrArg some hd2)) Tryz.underlying28
    rw [Tryz.bytesNode] at this
    simp only [List.length_map, List.length_range, reachBytes] at this
    omega
set_option maxRecDepth 100000 in
theorem open_i64 {W : World} {base : Nat} {v : Value} {d : DataW H} {p : List MemPlace} (hv : Value.okWide Tryz.prog W .any base 3 v) (h : DataW.Trod enc Tryz.prog W 0 (fun _ => true) true 3 v d p) : ∃ x : Int, v = .int .i64 x ∧ I64 x := by
  obtain ⟨bi, rfl, _, _, wb⟩ := open_int Tryz.underlying3 hv h
  exact ⟨bi, rfl, i64_wf wb⟩
set_option maxRecDepth 100000 in
theorem open_u16 {W : World} {base : Nat} {v : Value} {d : DataW H} {p : List MemPlace} (hv : Value.okWide Tryz.prog W .any base 55 v) (h : DataW.Trod enc Tryz.prog W 0 (fun _ => true) true 55 v d p) : ∃ x : Int, v = .int .u16 x ∧ 0 ≤ x ∧ x ≤ 65535 := by
  obtain ⟨bi, rfl, _, _, wb⟩ := open_int Tryz.underlying55 hv h
  have h1 : IntKind.u16.min = 0 := rfl
  have h2 : IntKind.u16.max = 65535 := rfl
  simp only [Lit.wf, Bool.and_eq_true, decide_eq_true_eq] at wb
  exact ⟨bi, rfl, by omega, by omega⟩
end
abbrev laidV : List (String × DataW Unit) := [("retort/term.limits", Rows.laid_retort_term_limits)]
theorem gLimits : Tryz.prog.globalNamed "retort/term.limits" = some 0 := by kernel_rfl
theorem tLimits : (Tryz.prog.globals[0]?).map (·.type) = some 248 := by kernel_rfl
theorem cLimit : Tryz.prog.cellsOf 247 = 3 := by kernel_rfl
theorem door_met (os : Os) (args : Array Value) : laidMetH Tryz.prog laidV ((World.doorLaid Tryz.prog 400 os).forCall (fun _ _ => 0) ⟨#[], args, []⟩).memory :=
  laidMetH_of_parts3 (fuel := 8) (laidMet_of_run' 8 (by kernel_rfl) (by kernel_rfl)) (by kernel_rfl) (by kernel_rfl)
set_option maxRecDepth 100000 in
theorem limit_row {W : World} {m : Nat} {cs : List Value} {y : DataW Unit × List MemPlace} {a b c : Int} (h : DataW.trod (fun _ => ()) Tryz.prog W 0 (fun _ => true) false m 247 cs = some y) (hy : y.1 = .agg [.lit (.int .i64 a), .lit (.int .i64 b), .lit (.int .i64 c)]) :
    cs = nodeV (a, b, c) := by
  obtain ⟨xs, k, _, rfl, hcl, hxl, hfl⟩ := DataW.trod_struct Tryz.underlying247 h
  rw [cLimit] at hcl
  match cs, hcl with
  | [u0, u1, u2], _ =>
    match xs, hxl with
    | [y0, y1, y2], _ =>
      have g0 := hfl 0 _ rfl
      have g1 := hfl 1 _ rfl
      have g2 := hfl 2 _ rfl
      simp [Tryz.cellsInt] at g0 g1 g2
      obtain ⟨x, e0, f0, w0⟩ := DataW.trod_int Tryz.underlying3 g0
      obtain ⟨y, e1, f1, w1⟩ := DataW.trod_int Tryz.underlying3 g1
      obtain ⟨z, e2, f2, w2⟩ := DataW.trod_int Tryz.underlying3 g2
      simp at e0 e1 e2
      subst e0 e1 e2 f0 f1 f2
      simp at hy
      obtain ⟨rfl, rfl, rfl⟩ := hy
      rfl
set_option maxRecDepth 100000 in
theorem lim_of_laid {W : World} (h : laidMetH Tryz.prog laidV W) : Lim W := by
  rw [MakeChecks.laidMetH_plain _ _ _ (by kernel_rfl)] at h
  obtain ⟨ps, ⟨g0, t0, cs0, f0, p0, q0, hg0, ht0, hv0, hd0, _, _⟩, _, _⟩ := h
  obtain rfl := Option.some.inj (gLimits.symm.trans hg0)
  obtain rfl := Option.some.inj (tLimits.symm.trans ht0)
  obtain ⟨xs, m1, rfl, hx, hlen, hn, hel⟩ := DataW.trod_array Tryz.underlying248 hd0
  have hcell := World.var?_cell hg0 hv0
  have hrow : ∀ i (hl : i < limTable.length), (cs0.toList.drop (i * 3)).take 3 = nodeV (limTable[i]'hl) := fun i hl => by
    have hi : i < 14 := hl
    have h1 := hel i hi
    rw [cLimit] at h1
    have hxi : i < xs.length := by omega
    rw [List.getElem?_eq_getElem hxi] at h1
    have h2 : (xs[i]'hxi).1 = .agg [.lit (.int .i64 (limTable[i]'hl).1), .lit (.int .i64 (limTable[i]'hl).2.1), .lit (.int .i64 (limTable[i]'hl).2.2)] := by
      have h3 := congrArg Prod.fst hx
      simp only [Rows.laid_retort_term_limits, DataW.agg.injEq] at h3
      have h4 := congrArg (fun l => l[i]?) h3
      simp only [List.getElem?_map, List.getElem?_eq_getElem hxi, Option.map_some] at h4
      have h5 : i = 0 ∨ i = 1 ∨ i = 2 ∨ i = 3 ∨ i = 4 ∨ i = 5 ∨ i = 6 ∨ i = 7 ∨ i = 8 ∨ i = 9 ∨ i = 10 ∨ i = 11 ∨ i = 12 ∨ i = 13 := by omega
      rcases h5 with rfl | rfl | rfl | rfl | rfl | rfl | rfl | rfl | rfl | rfl | rfl | rfl | rfl | rfl <;> exact (Option.some.inj h4).symm
    exact limit_row h1 h2
  refine fun _ => ⟨0, 0, rfl, fun j u hu => ?_⟩
  have hj := (List.getElem?_eq_some_iff.1 hu).1
  rw [nodesV_len] at hj
  have hj' : j < 42 := hj
  obtain ⟨i, f, rfl, hf⟩ : ∃ i f, j = i * 3 + f ∧ f < 3 := ⟨j / 3, j % 3, by omega, by omega⟩
  have hi : i < 14 := by omega
  have hl : i < limTable.length := hi
  rw [nodesV_get hl hf, ← hrow i hl, List.getElem?_take, if_pos hf, List.getElem?_drop] at hu
  rw [hcell, Nat.zero_add, ← hu, Array.getElem?_toList]
end Go.Proofs.YtfeodppdmbideaaGreatDoor
