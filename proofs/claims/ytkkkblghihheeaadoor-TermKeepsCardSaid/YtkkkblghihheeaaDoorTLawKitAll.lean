/- Rows in memory, handed from call to call. -/
import Derived.Test.YtkkkblghihheeaaDoorTAwake
import Derived.ProofKit
import Derived.ChangeSame
import Derived.Deep.Slices
import Derived.Carry
import Derived.SizedLaws
import Derived.LaidMore
import Derived.OpenShut
import Derived.Test.YtkkkblghihheeaaDoorTFacts
namespace Go.Proofs.YtkkkblghihheeaaDoor
open Go.RowKit

def lens (l : List RowT) : Nat := (l.map fun x => x.2.2.length).sum
theorem lens_take {l : List RowT} {k : Nat} (h : k < l.length) : lens (l.take (k + 1)) = lens (l.take k) + l[k].2.2.length := by
  unfold lens; rw [take_snoc h, List.map_append, List.sum_append]; rfl
theorem lens_le {l : List RowT} : ∀ x ∈ l, x.2.2.length ≤ lens l := by
  induction l with
  | nil => intro x hx; cases hx
  | cons y l ih =>
    intro x hx
    have e : lens (y :: l) = y.2.2.length + lens l := by unfold lens; rw [List.map_cons, List.sum_cons]
    rcases List.mem_cons.1 hx with rfl | hx
    · omega
    · have := ih x hx; omega
/-- What long answers. -/
def LongPost (l : List RowT) (w : World) (e : Ending) (w' : World) : Prop := w = w' ∧ ((e = .returned (.bool true)) ∨ (lens l ≤ 9000 ∧ e = .returned (.bool false)))
set_option maxHeartbeats 1000000 in
theorem long_any (R : Option Addr) (m c : Nat) (l : List RowT) (w : World) (hm : l.length = m) (hmb : m ≤ 100000000) (hR : Holds w R (l.map rowV)) (hsl : ∀ x ∈ l, x.2.2.length ≤ 4611686018427387904) :
    Calls Tryd.prog 14 #[.slice R m c] w (LongPost l w) := by
  have HM := Lib.hid hm
  have HR := Lib.hid hR
  have HSL := Lib.hid hsl
  clear hm hR hsl
  go_enter Tryd.func14, Tryd.ntmps14
  go_wp2_with fail
  go_loop [3, 4] (fun n i => ∃ k s : Nat, i = .int .i64 (k : Int) ∧ k ≤ m ∧ n = .int .i64 (s : Int) ∧ s ≤ 9000 ∧ Hid (s = lens (l.take k))) (fun _ i => m - (intOf i).toNat)
  case atStart => exact ⟨0, 0, rfl, Nat.zero_le _, rfl, by omega, rfl⟩
  case round =>
    obtain ⟨k, s, rfl, hk, rfl, hs, HS⟩ := hrel
    by_cases hlt : k < m
    · have hkl : k < l.length := by rw [HM.out]; exact hlt
      obtain ⟨b, o, rfl, hbl, hc⟩ := HR.out.at_ (by rw [List.length_map]; omega)
      have r0 := hc k _ (rowsV_get hkl)
      have hb := HSL.out _ (List.getElem_mem hkl)
      have HST : Hid (s + l[k].2.2.length = lens (l.take (k + 1))) := Lib.hid (by rw [lens_take hkl, HS.out])
      clear hc
      generalize l[k].2.2.length = x at *
      generalize l[k].1 = A at *
      generalize l[k].2.1 = d at *
      by_cases h9 : s + x ≤ 9000
      · have h1 : ¬ (9000 : Int) < (s : Int) + (x : Int) := by omega
        go_wp2_with fail
        go_round
        case rel => exact ⟨k + 1, s + x, by go_num, by omega, by go_num, h9, HST.out⟩
        case measure => simp [intOf] <;> omega
      · have h1 : (9000 : Int) < (s : Int) + (x : Int) := by omega
        go_wp2_with fail
        go_ret
        exact ⟨rfl, .inl rfl⟩
    · have hkm : k = m := by omega
      have HF : Hid (lens l ≤ 9000) := Lib.hid (by
        have := HS.out
        rw [hkm, List.take_of_length_le (by have := HM.out; omega)] at this
        omega)
      clear hkm
      go_wp2_with fail
      go_ret
      exact ⟨rfl, .inr ⟨HF.out, rfl⟩⟩
end Go.Proofs.YtkkkblghihheeaaDoor
namespace Go.Proofs.YtkkkblghihheeaaDoor
open Go.ChangeShapes Go.WideShapes Go.ChangeAt Go.RowKit

def WideT (t : List Node3) : Prop := ∀ x ∈ t, (-9223372036854775808 ≤ x.1 ∧ x.1 ≤ 9223372036854775807) ∧ (-9223372036854775808 ≤ x.2.1 ∧ x.2.1 ≤ 9223372036854775807) ∧ -9223372036854775808 ≤ x.2.2 ∧ x.2.2 ≤ 9223372036854775807
theorem Tryd.own : ownKnob Tryd.prog.godebug = none := by kernel_rfl
theorem Tryd.laidOut : laidOutB Tryd.prog = true := by kernel_rfl
theorem Tryd.cellsInt : Tryd.prog.cellsOf 3 = 1 := by kernel_rfl
theorem Tryd.cellsNode : Tryd.prog.cellsOf 53 = 3 := by kernel_rfl

section
variable {H : Type} {enc : TypeId × Value → H} {P : Program}
theorem trodAll_below (hl : laidOutB P = true) {W W' : World} (hb : Below W.heap.size W W') : ∀ {ts : List TypeId} {vs : List Value} {ds : List (DataW H)} {ps : List MemPlace}, (ts.all fun t => P.readableRec t && decide (t < P.types.size)) = true →
    DataW.TrodAll enc P W 0 (fun _ => true) true ts vs ds ps → (∀ x ∈ ps, x.block < W.heap.size) → DataW.TrodAll enc P W' 0 (fun b => decide (b < W.heap.size)) true ts vs ds ps
  | [], [], [], _, _, h, _ => h
  | t :: ts, v :: vs, d :: ds, ps, hts, h, hlt => by
    obtain ⟨p, q, h1, h2, rfl⟩ := h
    simp only [List.all_cons, Bool.and_eq_true, decide_eq_true_eq] at hts
    exact ⟨p, q, Below.trod hl hts.1.1 hts.1.2 h1 hb (fun x hx => hlt x (List.mem_append_left _ hx)), trodAll_below hl hb (by simpa using hts.2) h2 (fun x hx => hlt x (List.mem_append_right _ hx)), rfl⟩
end

section
variable {H : Type} {enc : TypeId × Value → H}
theorem i64_wf {n : Int} (h : (Lit.int .i64 n).wf = true) : -9223372036854775808 ≤ n ∧ n ≤ 9223372036854775807 := by
  have h1 : IntKind.i64.min = -9223372036854775808 := rfl
  have h2 : IntKind.i64.max = 9223372036854775807 := rfl
  simp only [Lit.wf, Bool.and_eq_true, decide_eq_true_eq] at h
  omega
def nodeAt (W : World) (b o i : Nat) : Node3 := let f := fun k => intOf ((W.cell? ⟨b, o + (i * 3 + k), none⟩).getD undef); (f 0, f 1, f 2)
set_option maxRecDepth 100000 in
theorem open_nodes {W : World} {base : Nat} {v : Value} {d : DataW H} {p : List MemPlace} (hv : Value.okWide Tryd.prog W .any base 23 v) (h : DataW.Trod enc Tryd.prog W 0 (fun _ => true) true 23 v d p) :
    ∃ A c t, v = .slice A t.length c ∧ Slice A t.length c ∧ Holds W A (nodesV t) ∧ WideT t := by
  obtain ⟨A, n, c, rfl⟩ := okWide_slice Tryd.underlying23 hv
  obtain ⟨fuel, hf⟩ := h
  rcases Deep.open_slice Tryd.underlying23 hf with ⟨hcs, _⟩ | ⟨a, len, cap, m, q, D, Pl, hcs, _, hl, hm, hmm, _, hi⟩
  · simp [Value.cells] at hcs
    obtain ⟨rfl, rfl, rfl⟩ := hcs
    exact ⟨none, 0, [], rfl, slice_nil, Holds.nil _ _, fun x hx => by cases hx⟩
  · simp [Value.cells] at hcs
    obtain ⟨rfl, rfl, rfl⟩ := hcs
    simp only [if_true] at hmm
    subst hmm
    rw [Tryd.cellsNode] at hi
    have hel : ∀ i, i < n → ∃ x y z : Int, W.cell? (a.add (i * 3)) = some (.int .i64 x) ∧ W.cell? ((a.add (i * 3)).add 1) = some (.int .i64 y) ∧ W.cell? ((a.add (i * 3)).add 2) = some (.int .i64 z) ∧
        (-9223372036854775808 ≤ x ∧ x ≤ 9223372036854775807) ∧ (-9223372036854775808 ≤ y ∧ y ≤ 9223372036854775807) ∧ -9223372036854775808 ≤ z ∧ z ≤ 9223372036854775807 := by
      intro i hin
      obtain ⟨cs', hc, ht⟩ := hi i (by omega)
      obtain ⟨_, hcl, hat⟩ := World.cells?_some hc
      obtain ⟨xs, k, _, _, _, hxl, hfl⟩ := DataW.trod_struct Tryd.underlying53 ht
      match cs', hcl with
      | [u0, u1, u2], _ =>
        match xs, hxl with
        | [y0, y1, y2], _ =>
          have g0 := hfl 0 _ rfl
          have g1 := hfl 1 _ rfl
          have g2 := hfl 2 _ rfl
          simp [Tryd.cellsInt] at g0 g1 g2
          obtain ⟨x, e0, _, w0⟩ := DataW.trod_int Tryd.underlying3 g0
          obtain ⟨y, e1, _, w1⟩ := DataW.trod_int Tryd.underlying3 g1
          obtain ⟨z, e2, _, w2⟩ := DataW.trod_int Tryd.underlying3 g2
          simp at e0 e1 e2
          subst e0 e1 e2
          refine ⟨x, y, z, ?_, hat 1 (by omega), hat 2 (by omega), i64_wf w0, i64_wf w1, i64_wf w2⟩
          have := hat 0 (by omega)
          simpa [Addr.add] using this
    rcases Nat.eq_zero_or_pos n with h0 | h0
    · subst h0
      exact ⟨some a, m, [], rfl, ⟨Nat.zero_le _, hm, fun h => (by cases h)⟩, Holds.nil _ _, fun x hx => by cases hx⟩
    · obtain ⟨b, off, spot⟩ := a
      have hspot : spot = none := by
        obtain ⟨x, _, _, hx, _⟩ := hel 0 h0
        simpa [Addr.add] using World.cell?_spot hx
      subst hspot
      have hnode : ∀ i, i < n → ∃ x y z : Int, nodeAt W b off i = (x, y, z) ∧ W.cell? ⟨b, off + i * 3, none⟩ = some (.int .i64 x) ∧ W.cell? ⟨b, off + i * 3 + 1, none⟩ = some (.int .i64 y) ∧ W.cell? ⟨b, off + i * 3 + 2, none⟩ = some (.int .i64 z) ∧
          (-9223372036854775808 ≤ x ∧ x ≤ 9223372036854775807) ∧ (-9223372036854775808 ≤ y ∧ y ≤ 9223372036854775807) ∧ -9223372036854775808 ≤ z ∧ z ≤ 9223372036854775807 := by
        intro i hin
        obtain ⟨x, y, z, c0, c1, c2, hw⟩ := hel i hin
        rw [add_off] at c0
        rw [add_off, add_off] at c1 c2
        refine ⟨x, y, z, ?_, c0, c1, c2, hw⟩
        unfold nodeAt
        simp only [Nat.add_zero, ← Nat.add_assoc]
        rw [c0, c1, c2]
        rfl
      have hlen : ((List.range n).map (nodeAt W b off)).length = n := by simp
      refine ⟨some ⟨b, off, none⟩, m, (List.range n).map (nodeAt W b off), by rw [hlen], ⟨by rw [hlen]; exact hl, hm, fun h => (by cases h)⟩, fun _ => ⟨b, off, rfl, fun j u hu => ?_⟩, fun x hx => ?_⟩
      · have hj : j < n * 3 := by
          have := (List.getElem?_eq_some_iff.1 hu).1
          rw [nodesV_len, hlen] at this
          exact this
        obtain ⟨i, f, rfl, hf⟩ : ∃ i f, j = i * 3 + f ∧ f < 3 := ⟨j / 3, j % 3, by omega, by omega⟩
        have hin : i < n := by omega
        obtain ⟨x, y, z, hnd, c0, c1, c2, _⟩ := hnode i hin
        rw [nodesV_get (by rw [hlen]; exact hin) hf] at hu
        rw [List.getElem_map, List.getElem_range, hnd] at hu
        rcases (by omega : f = 0 ∨ f = 1 ∨ f = 2) with rfl | rfl | rfl
        · rw [← hu, Nat.add_zero, c0]; rfl
        · rw [← hu, ← Nat.add_assoc, c1]; rfl
        · rw [← hu, ← Nat.add_assoc, c2]; rfl
      · obtain ⟨i, hi, rfl⟩ := List.mem_map.1 hx
        obtain ⟨x, y, z, hnd, _, _, _, hw⟩ := hnode i (List.mem_range.1 hi)
        rw [hnd]
        exact hw

theorem Tryd.bytesNode : Tryd.prog.bytesOf 53 = 24 := by kernel_rfl
/-- A row takes no more than the reach. -/
theorem node_weight {W : World} {A : Option Addr} {n c : Nat} {d : DataW H} {p : List MemPlace} {ts : List TypeId} {ds : List (DataW H)} (hsz : (DataW.weightsEach Tryd.prog ts ds).all (· ≤ reachBytes) = true) {j : Nat} (ht : ts[j]? = some 23) (hd : ds[j]? = some d)
    (h : DataW.Trod enc Tryd.prog W 0 (fun _ => true) true 23 (.slice A n c) d p) (hs : Slice A n c) : n ≤ 4611686018427387904 := by
  obtain ⟨fuel, hf⟩ := h
  rcases Deep.open_slice (cs := [.slice A n c]) Tryd.underlying23 (by simpa [Value.cells] using hf) with ⟨hcs, _⟩ | ⟨a, len, cap, m, q, D, Pl, hcs, _, hl, hm, hmm, hx, _⟩
  · simp at hcs
    omega
  · simp at hcs
    obtain ⟨rfl, rfl, rfl⟩ := hcs
    simp only [if_true] at hmm
    subst hmm
    have hd2 := congrArg Prod.fst hx
    simp only at hd2
    have := sized_slice hsz ht (hd.trans (congrArg some hd2)) Tryd.underlying23
    rw [Tryd.bytesNode] at this
    simp only [List.length_map, List.length_range, reachBytes] at this
    omega
set_option maxRecDepth 100000 in
theorem open_i64 {W : World} {base : Nat} {v : Value} {d : DataW H} {p : List MemPlace} (hv : Value.okWide Tryd.prog W .any base 3 v) (h : DataW.Trod enc Tryd.prog W 0 (fun _ => true) true 3 v d p) : ∃ x : Int, v = .int .i64 x ∧ I64 x := by
  obtain ⟨bi, rfl, _, _, wb⟩ := open_int Tryd.underlying3 hv h
  exact ⟨bi, rfl, i64_wf wb⟩
set_option maxRecDepth 100000 in
theorem open_u16 {W : World} {base : Nat} {v : Value} {d : DataW H} {p : List MemPlace} (hv : Value.okWide Tryd.prog W .any base 48 v) (h : DataW.Trod enc Tryd.prog W 0 (fun _ => true) true 48 v d p) : ∃ x : Int, v = .int .u16 x ∧ 0 ≤ x ∧ x ≤ 65535 := by
  obtain ⟨bi, rfl, _, _, wb⟩ := open_int Tryd.underlying48 hv h
  have h1 : IntKind.u16.min = 0 := rfl
  have h2 : IntKind.u16.max = 65535 := rfl
  simp only [Lit.wf, Bool.and_eq_true, decide_eq_true_eq] at wb
  exact ⟨bi, rfl, by omega, by omega⟩
end
abbrev laidV : List (String × DataW Unit) := [("retort/term.limits", Rows.laid_retort_term_limits)]
theorem gLimits : Tryd.prog.globalNamed "retort/term.limits" = some 0 := by kernel_rfl
theorem tLimits : (Tryd.prog.globals[0]?).map (·.type) = some 105 := by kernel_rfl
theorem cLimit : Tryd.prog.cellsOf 104 = 3 := by kernel_rfl
theorem door_met (os : Os) (args : Array Value) : laidMetH Tryd.prog laidV ((World.doorLaid Tryd.prog 400 os).forCall (fun _ _ => 0) ⟨#[], args, []⟩).memory :=
  laidMetH_of_parts3 (fuel := 8) (laidMet_of_run' 8 (by kernel_rfl) (by kernel_rfl)) (by kernel_rfl) (by kernel_rfl)
set_option maxRecDepth 100000 in
theorem limit_row {W : World} {m : Nat} {cs : List Value} {y : DataW Unit × List MemPlace} {a b c : Int} (h : DataW.trod (fun _ => ()) Tryd.prog W 0 (fun _ => true) false m 104 cs = some y) (hy : y.1 = .agg [.lit (.int .i64 a), .lit (.int .i64 b), .lit (.int .i64 c)]) :
    cs = nodeV (a, b, c) := by
  obtain ⟨xs, k, _, rfl, hcl, hxl, hfl⟩ := DataW.trod_struct Tryd.underlying104 h
  rw [cLimit] at hcl
  match cs, hcl with
  | [u0, u1, u2], _ =>
    match xs, hxl with
    | [y0, y1, y2], _ =>
      have g0 := hfl 0 _ rfl
      have g1 := hfl 1 _ rfl
      have g2 := hfl 2 _ rfl
      simp [Tryd.cellsInt] at g0 g1 g2
      obtain ⟨x, e0, f0, w0⟩ := DataW.trod_int Tryd.underlying3 g0
      obtain ⟨y, e1, f1, w1⟩ := DataW.trod_int Tryd.underlying3 g1
      obtain ⟨z, e2, f2, w2⟩ := DataW.trod_int Tryd.underlying3 g2
      simp at e0 e1 e2
      subst e0 e1 e2 f0 f1 f2
      simp at hy
      obtain ⟨rfl, rfl, rfl⟩ := hy
      rfl
set_option maxRecDepth 100000 in
theorem lim_of_laid {W : World} (h : laidMetH Tryd.prog laidV W) : Lim W := by
  rw [MakeChecks.laidMetH_plain _ _ _ (by kernel_rfl)] at h
  obtain ⟨ps, ⟨g0, t0, cs0, f0, p0, q0, hg0, ht0, hv0, hd0, _, _⟩, _, _⟩ := h
  obtain rfl := Option.some.inj (gLimits.symm.trans hg0)
  obtain rfl := Option.some.inj (tLimits.symm.trans ht0)
  obtain ⟨xs, m1, rfl, hx, hlen, hn, hel⟩ := DataW.trod_array Tryd.underlying105 hd0
  have hcell := World.var?_cell hg0 hv0
  have hrow : ∀ i (hl : i < limTable.length), (cs0.toList.drop (i * 3)).take 3 = nodeV (limTable[i]'hl) := fun i hl => by
    have hi : i < 14 := hl
    have h1 := hel i hi
    rw [cLimit] at h1
    have hxi : i < xs.length := by omega
    rw [List.getElem?_eq_getElem hxi] at h1
    have h2 : (xs[i]'hxi).1 = .agg [.lit (.int .i64 (limTable[i]'hl).1), .lit (.int .i64 (limTable[i]'hl).2.1), .lit (.int .i64 (limTable[i]'hl).2.2)] := by
      have h3 := congrArg Prod.fst hx
      simp only [Rows.laid_retort_term_limits, DataW.agg.injEq] at h3
      have h4 := congrArg (fun l => l[i]?) h3
      simp only [List.getElem?_map, List.getElem?_eq_getElem hxi, Option.map_some] at h4
      have h5 : i = 0 ∨ i = 1 ∨ i = 2 ∨ i = 3 ∨ i = 4 ∨ i = 5 ∨ i = 6 ∨ i = 7 ∨ i = 8 ∨ i = 9 ∨ i = 10 ∨ i = 11 ∨ i = 12 ∨ i = 13 := by omega
      rcases h5 with rfl | rfl | rfl | rfl | rfl | rfl | rfl | rfl | rfl | rfl | rfl | rfl | rfl | rfl <;> exact (Option.some.inj h4).symm
    exact limit_row h1 h2
  refine fun _ => ⟨0, 0, rfl, fun j u hu => ?_⟩
  have hj := (List.getElem?_eq_some_iff.1 hu).1
  rw [nodesV_len] at hj
  have hj' : j < 42 := hj
  obtain ⟨i, f, rfl, hf⟩ : ∃ i f, j = i * 3 + f ∧ f < 3 := ⟨j / 3, j % 3, by omega, by omega⟩
  have hi : i < 14 := by omega
  have hl : i < limTable.length := hi
  rw [nodesV_get hl hf, ← hrow i hl, List.getElem?_take, if_pos hf, List.getElem?_drop] at hu
  rw [hcell, Nat.zero_add, ← hu, Array.getElem?_toList]
end Go.Proofs.YtkkkblghihheeaaDoor
namespace Go.Proofs.YtkkkblghihheeaaDoor
open Go.RowKit

/-- A row in memory. -/
structure RowIn (w : World) (A : Option Addr) (n c : Nat) (l : List Node3) : Prop where
  len : l.length = n
  sl : Slice A n c
  ho : Holds w A (nodesV l)
theorem RowIn.below {w w' : World} {A : Option Addr} {n c : Nat} {l : List Node3} (h : RowIn w A n c l) (hb : Below w.heap.size w w') : RowIn w' A n c l := ⟨h.len, h.sl, h.ho.below hb⟩
/-- What a call answers that answers a row. -/
def InAns (r : List Node3 × Int) (w : World) (e : Ending) (w' : World) : Prop :=
  ∃ A n c, e = .returned (.tuple #[.slice A n c, .int .i64 r.2]) ∧ RowIn w' A n c r.1 ∧ Below w.heap.size w w'
theorem RowAns.in_ {r : List Node3 × Int} {w w' : World} {e : Ending} (h : RowAns r w e w') : InAns r w e w' := by
  obtain ⟨A, n, c, he, hl, ho, hb⟩ := h
  obtain ⟨A', c', e', hs, _⟩ := own_slice ho
  cases e'
  exact ⟨A, n, c, he, ⟨hl, hs, own_holds ho⟩, hb⟩
theorem subst_in {A B : Option Addr} {n c m d : Nat} {t u : List Node3} {w : World} (h : RowIn w A n c t) (hu : RowIn w B m d u) (hL : Lim w) (at_ : Int) (hat : I64 at_) :
    Calls Tryd.prog 32 #[.slice A n c, .slice B m d, .int .i64 at_] w (InAns (substS t u at_) w) := (subst_any A B n c m d t u at_ w h.len h.sl h.ho hu.len hu.sl hu.ho hL hat).mono fun _ _ h => h.in_
theorem lift_in {A : Option Addr} {n c : Nat} {t : List Node3} {w : World} (h : RowIn w A n c t) (hL : Lim w) (by_ from_ : Int) :
    Calls Tryd.prog 25 #[.slice A n c, .int .i64 by_, .int .i64 from_] w (InAns (liftS t by_ from_) w) := (lift_any A n c t by_ from_ w h.len h.sl h.ho hL).mono fun _ _ h => h.in_
theorem free_in_ {A : Option Addr} {n c : Nat} {t : List Node3} {w : World} (h : RowIn w A n c t) (hL : Lim w) (v : Int) : Calls Tryd.prog 28 #[.slice A n c, .int .i64 v] w fun e w' => e = .returned (.bool (freeS t v)) ∧ Below w.heap.size w w' := tfree_any A n c t v w h.len h.ho hL
theorem below_in {A : Option Addr} {n c : Nat} {t : List Node3} {w : World} (h : RowIn w A n c t) (hL : Lim w) (v : Int) : Calls Tryd.prog 30 #[.slice A n c, .int .i64 v] w fun e w' => e = .returned (.bool (belowS t v)) ∧ Below w.heap.size w w' := tbelow_any A n c t v w h.len h.ho hL
theorem shape_in {A : Option Addr} {n c : Nat} {t : List Node3} {w : World} (h : RowIn w A n c t) (hL : Lim w) : Calls Tryd.prog 15 #[.slice A n c] w fun e w' => e = .returned (.int .i64 (shapeOf t)) ∧ Below w.heap.size w w' := shape_any A n c t w h.len h.ho hL
theorem same_in {A B : Option Addr} {n c m d : Nat} {t u : List Node3} {w : World} (h : RowIn w A n c t) (hu : RowIn w B m d u) (hb : n ≤ 1000000000) (v : Bool) (hv : v = decide (t = u)) :
    Calls Tryd.prog 27 #[.slice A n c, .slice B m d] w fun e w' => e = .returned (.bool v) ∧ Below w.heap.size w w' := tsame_n A B n m c d t u w h.len hu.len h.ho hu.ho hb v hv
theorem subst_len (t u : List Node3) (at_ : Int) : (substS t u at_).1.length ≤ 4096 := by
  unfold substS
  split
  · simp
  split
  · simp
  split
  · simp
  split
  · simp
  · simp only; omega
theorem lift_len (t : List Node3) (by_ from_ : Int) : (liftS t by_ from_).1.length ≤ 4096 := by
  unfold liftS
  split
  · simp
  rename_i h
  split
  · simp
  split
  · simp
  · have h0 : shapeOf t = 0 := by simpa using h
    obtain ⟨ha, hl⟩ := ann_of h0
    simp only [List.length_map]
    rw [ha.len]; exact hl
end Go.Proofs.YtkkkblghihheeaaDoor
