/- The way to the laws of books: BSameP to BOpen2. -/
import Derived.Test.YtfeodppdmbideaaGreatDoorBA14
import Derived.Test.YtfeodppdmbideaaGreatDoorBA17
import Derived.Test.YtfeodppdmbideaaGreatDoorBA25
import Derived.Test.YtfeodppdmbideaaGreatDoorBA31
import Derived.Test.YtfeodppdmbideaaGreatDoorBA33
namespace Go.Proofs.YtfeodppdmbideaaGreatDoor
open Go.RowKit

def RowSm (t : List Node3) : Prop := t.length ≤ 1000000000
def RowsSm (l : List (List Node3)) : Prop := l.length ≤ 100000000 ∧ ∀ t ∈ l, RowSm t
structure EntSm (x : EntP) : Prop where
  sort : RowSm x.sort
  pars : RowsSm x.pars
  inds : RowsSm x.inds
  many : x.ctors.length ≤ 1000000000
  ctors : ∀ c ∈ x.ctors, RowsSm c.args ∧ RowsSm c.out
  typ : RowSm x.typ
  body : RowSm x.body
structure BookSm (b : BookP) : Prop where
  ents : ∀ x ∈ b.ents, EntSm x
  nords : b.ords.length ≤ 1000000000
  nents : b.ents.length ≤ 1000000000
  nprims : b.prims.length ≤ 1000000000
structure ProgSm (p : ProgP) : Prop where
  book : BookSm p.book
  main : RowSm p.main
  typ : RowSm p.typ
theorem row_yes {A B : Option Addr} {c d n : Nat} {l : List Node3} {w : World} (hn : l.length = n) (hA : Holds w A (nodesV l)) (hB : Holds w B (nodesV l)) (hl : RowSm l) : SameYes 21 (.slice A n c) (.slice B n d) w :=
  fun W g => tsame_n A B n n c d l l W hn hn (hA.below g) (hB.below g) (by unfold RowSm at hl; omega) true (by simp)
theorem rows_yes {x y : RowsT} {n : Nat} {w : World} (hn : x.2.2.length = n) (hx : RowsIn w x) (hy : RowsIn w y) (he : rowsP x = rowsP y) (hl : RowsSm (rowsP x)) : SameYes 166 (.slice x.1 n x.2.1) (.slice y.1 n y.2.1) w := by
  have hy2 : y.2.2.length = n := by
    have := congrArg List.length he
    simp only [rowsP, List.length_map] at this
    omega
  have h1 : x.2.2.length ≤ 100000000 := by
    have := hl.1
    simp only [rowsP, List.length_map] at this
    exact this
  exact fun W g => samerows_any x.1 y.1 n x.2.1 y.2.1 x.2.2 y.2.2 W hn hy2 (hx.2.1.below g) (hy.2.1.below g) (hx.2.2.below g) (hy.2.2.below g) (fun t ht => hl.2 _ (List.mem_map_of_mem ht)) he (by omega)
theorem rows_len {x y : RowsT} (he : rowsP x = rowsP y) : y.2.2.length = x.2.2.length := by
  have := congrArg List.length he
  simp only [rowsP, List.length_map] at this
  exact this.symm
theorem map_at {α β : Type} {f : α → β} {l r : List α} (h : l.map f = r.map f) {k : Nat} (h1 : k < l.length) (h2 : k < r.length) : f l[k] = f r[k] := by
  have h := congrArg (fun q => q[k]?) h
  simp only [List.getElem?_map, List.getElem?_eq_getElem h1, List.getElem?_eq_getElem h2, Option.map_some, Option.some.injEq] at h
  exact h
theorem sameent_eq (x y : EntT) (w : World) (hx : EntIn w x) (hy : EntIn w y) (he : x.p = y.p) (hs : EntSm x.p) : Calls Tryz.prog 118 #[x.val, y.val] w (fun e w' => e = .returned (.bool true) ∧ Below w.heap.size w w') := by
  obtain ⟨kd, ⟨sA, sc, sl⟩, ⟨pA, pc, pl⟩, ⟨iA, ic, il⟩, ⟨cA, cc, cl⟩, ⟨tA, tc, tl⟩, ⟨bA, bc, bl⟩⟩ := x
  obtain ⟨kd', ⟨sA', sc', sl'⟩, ⟨pA', pc', pl'⟩, ⟨iA', ic', il'⟩, ⟨cA', cc', cl'⟩, ⟨tA', tc', tl'⟩, ⟨bA', bc', bl'⟩⟩ := y
  simp only [EntT.p, EntP.mk.injEq] at he
  obtain ⟨rfl, rfl, hp, hi, hc, rfl, rfl⟩ := he
  have np := rows_len hp
  have ni := rows_len hi
  have nc : cl'.length = cl.length := by
    have := congrArg List.length hc
    simp only [List.length_map] at this
    exact this.symm
  simp only at np ni
  have q := sameent_n kd sA pA iA cA tA bA sA' pA' iA' cA' tA' bA' sl.length pl.length il.length cl.length tl.length bl.length sc pc ic cc tc bc sc' pc' ic' cc' tc' bc' w (by have := hs.many; simp only [EntT.p, List.length_map] at this; exact this)
    (Lib.hid (row_yes rfl hx.sort.2 hy.sort.2 hs.sort)) (Lib.hid (rows_yes (x := (pA, pc, pl)) (y := (pA', pc', pl')) rfl hx.pars hy.pars hp hs.pars)) (Lib.hid (rows_yes (x := (iA, ic, il)) (y := (iA', ic', il')) rfl hx.inds hy.inds hi hs.inds))
    (Lib.hid (row_yes rfl hx.typ.2 hy.typ.2 hs.typ)) (Lib.hid (row_yes rfl hx.body.2 hy.body.2 hs.body)) (Lib.hid fun k hk => by
      have hk' : k < cl'.length := by omega
      obtain ⟨b, o, rfl, hl, -⟩ := hx.ctors.2.1.at_ (by rw [ctorsCV_len]; simp only; omega)
      obtain ⟨b', o', rfl, hl', -⟩ := hy.ctors.2.1.at_ (by rw [ctorsCV_len]; simp only; omega)
      obtain ⟨c0, c1⟩ := ctors_cells hx.ctors.2.1 hk
      obtain ⟨d0, d1⟩ := ctors_cells hy.ctors.2.1 hk'
      have hin := hx.ctors.2.2 _ (List.getElem_mem hk)
      have hin' := hy.ctors.2.2 _ (List.getElem_mem hk')
      have hck := map_at hc hk hk'
      simp only [CtorT.p, CtorP.mk.injEq] at hck
      have hsm := hs.ctors _ (List.mem_map_of_mem (List.getElem_mem hk))
      simp only at c0 c1 d0 d1 hin hin' hck hsm
      generalize cl[k] = x at *
      generalize cl'[k] = y at *
      have la := rows_len hck.1
      have lu := rows_len hck.2
      simp only [rowsV] at c0 c1 d0 d1
      rw [la] at d0
      rw [lu] at d1
      exact ⟨b, o, b', o', x.args.1, x.args.2.2.length, x.args.2.1, x.out.1, x.out.2.2.length, x.out.2.1, y.args.1, y.args.2.1, y.out.1, y.out.2.1, rfl, rfl, hl, hl', c0, c1, d0, d1, rows_yes rfl hin.1 hin'.1 hck.1 hsm.1, rows_yes rfl hin.2 hin'.2 hck.2 hsm.2⟩)
  simp only [EntT.val, rowsV, ctorsV, rowV]
  rw [np, ni, nc]
  exact q
theorem samebook_eq (x y : BookT) (w : World) (hx : BookIn w x) (hy : BookIn w y) (he : x.p = y.p) (hs : BookSm x.p) : Calls Tryz.prog 71 #[x.val, y.val] w (fun e w' => e = .returned (.bool true) ∧ Below w.heap.size w w') := by
  obtain ⟨va, ⟨oA, oc, ol⟩, ⟨eA, ec, el⟩, nt, ⟨pA, pc, pl⟩⟩ := x
  obtain ⟨va', ⟨oA', oc', ol'⟩, ⟨eA', ec', el'⟩, nt', ⟨pA', pc', pl'⟩⟩ := y
  simp only [BookT.p, BookP.mk.injEq] at he
  obtain ⟨rfl, rfl, hee, rfl, rfl⟩ := he
  have ne : el'.length = el.length := by
    have := congrArg List.length hee
    simp only [List.length_map] at this
    exact this.symm
  have q := samebook_n va nt oA eA pA oA' eA' pA' ol.length el.length pl.length oc ec pc oc' ec' pc' w hs.nords (by have := hs.nents; simp only [BookT.p, List.length_map] at this; exact this) hs.nprims
    (Lib.hid fun k hk => by
      obtain ⟨b, o, rfl, hl, hc⟩ := hx.ords.2.at_ (by rw [ordsV_len]; simp only; omega)
      obtain ⟨b', o', rfl, hl', hc'⟩ := hy.ords.2.at_ (by rw [ordsV_len]; simp only; omega)
      have e0 := hc (k * 3) _ (ordsV_get0 hk)
      have e1 := hc (k * 3 + 1) _ (ordsV_get1 hk)
      have e2 := hc (k * 3 + 2) _ (ordsV_get2 hk)
      have f0 := hc' (k * 3) _ (ordsV_get0 hk)
      have f1 := hc' (k * 3 + 1) _ (ordsV_get1 hk)
      have f2 := hc' (k * 3 + 2) _ (ordsV_get2 hk)
      rw [← Nat.add_assoc] at e1 e2 f1 f2
      exact ⟨b, o, b', o', _, _, _, rfl, rfl, hl, hl', e0, e1, e2, f0, f1, f2⟩)
    (Lib.hid fun k hk => by
      have hk' : k < el'.length := by omega
      obtain ⟨b, o, rfl, hl, -⟩ := hx.ents.2.1.at_ (by rw [entsCV_len]; simp only; omega)
      obtain ⟨b', o', rfl, hl', -⟩ := hy.ents.2.1.at_ (by rw [entsCV_len]; simp only; omega)
      obtain ⟨c0, c1, c2, c3, c4, c5, c6⟩ := ents_cells hx.ents.2.1 hk
      obtain ⟨d0, d1, d2, d3, d4, d5, d6⟩ := ents_cells hy.ents.2.1 hk'
      have hin := hx.ents.2.2 _ (List.getElem_mem hk)
      have hin' := hy.ents.2.2 _ (List.getElem_mem hk')
      have hck := map_at hee hk hk'
      have hsm := hs.ents _ (List.mem_map_of_mem (List.getElem_mem hk))
      simp only at c0 c1 c2 c3 c4 c5 c6 d0 d1 d2 d3 d4 d5 d6 hin hin' hck hsm
      generalize el[k] = x at *
      generalize el'[k] = y at *
      have hyes : SameYes 118 x.val y.val w := fun W g => sameent_eq x y W (hin.below g) (hin'.below g) hck hsm
      obtain ⟨kd, ⟨sA, sc, sl⟩, ⟨aA, ac, al⟩, ⟨iA, ic, il⟩, ⟨cA, cc, cl⟩, ⟨tA, tc, tl⟩, ⟨bA, bc, bl⟩⟩ := x
      obtain ⟨kd', ⟨sA', sc', sl'⟩, ⟨aA', ac', al'⟩, ⟨iA', ic', il'⟩, ⟨cA', cc', cl'⟩, ⟨tA', tc', tl'⟩, ⟨bA', bc', bl'⟩⟩ := y
      simp only [EntT.p, EntP.mk.injEq] at hck
      obtain ⟨rfl, rfl, hp, hi, hc, rfl, rfl⟩ := hck
      have np := rows_len hp
      have ni := rows_len hi
      have nc : cl'.length = cl.length := by
        have := congrArg List.length hc
        simp only [List.length_map] at this
        exact this.symm
      simp only at np ni
      simp only [EntT.val, rowsV, ctorsV, rowV] at hyes c0 c1 c2 c3 c4 c5 c6 d0 d1 d2 d3 d4 d5 d6
      rw [np, ni, nc] at hyes
      rw [np] at d2
      rw [ni] at d3
      rw [nc] at d4
      exact ⟨b, o, b', o', kd, sA, _, sc, aA, _, ac, iA, _, ic, cA, _, cc, tA, _, tc, bA, _, bc, sA', sc', aA', ac', iA', ic', cA', cc', tA', tc', bA', bc', rfl, rfl, hl, hl', ⟨c0, c1, c2, c3, c4, c5, c6, d0, d1, d2, d3, d4, d5, d6⟩, hyes⟩)
    (Lib.hid fun k hk => by
      obtain ⟨b, o, rfl, hl, hc⟩ := hx.prims.2.at_ (by rw [atomsV_len]; simp only; omega)
      obtain ⟨b', o', rfl, hl', hc'⟩ := hy.prims.2.at_ (by rw [atomsV_len]; simp only; omega)
      have e0 := hc (k * 2) _ (atomsV_get0 hk)
      have e1 := hc (k * 2 + 1) _ (atomsV_get1 hk)
      have f0 := hc' (k * 2) _ (atomsV_get0 hk)
      have f1 := hc' (k * 2 + 1) _ (atomsV_get1 hk)
      rw [← Nat.add_assoc] at e1 f1
      exact ⟨b, o, b', o', _, _, rfl, rfl, hl, hl', e0, e1, f0, f1⟩)
  simp only [BookT.val, entsV]
  rw [ne]
  exact q
theorem sameprog_eq (x y : ProgT) (w : World) (hx : ProgIn w x) (hy : ProgIn w y) (he : x.p = y.p) (hs : ProgSm x.p) : Calls Tryz.prog 29 #[x.val, y.val] w (fun e w' => e = .returned (.bool true) ∧ Below w.heap.size w w') := by
  have hbk : x.book.p = y.book.p := congrArg ProgP.book he
  have hyes : SameYes 71 x.book.val y.book.val w := fun W g => samebook_eq x.book y.book W (hx.book.below g) (hy.book.below g) hbk hs.book
  obtain ⟨⟨va, ⟨oA, oc, ol⟩, ⟨eA, ec, el⟩, nt, ⟨pA, pc, pl⟩⟩, ⟨mA, mc, ml⟩, ⟨tA, tc, tl⟩⟩ := x
  obtain ⟨⟨va', ⟨oA', oc', ol'⟩, ⟨eA', ec', el'⟩, nt', ⟨pA', pc', pl'⟩⟩, ⟨mA', mc', ml'⟩, ⟨tA', tc', tl'⟩⟩ := y
  simp only [ProgT.p, BookT.p, ProgP.mk.injEq, BookP.mk.injEq] at he
  obtain ⟨⟨rfl, rfl, hee, rfl, rfl⟩, rfl, rfl⟩ := he
  have ne : el'.length = el.length := by
    have := congrArg List.length hee
    simp only [List.length_map] at this
    exact this.symm
  simp only [BookT.val, entsV] at hyes
  rw [ne] at hyes
  have q := sameprog_n va nt oA eA pA mA tA oA' eA' pA' mA' tA' ol.length el.length pl.length ml.length tl.length oc ec pc mc tc oc' ec' pc' mc' tc' w (Lib.hid hyes) (Lib.hid (row_yes rfl hx.main.2 hy.main.2 hs.main)) (Lib.hid (row_yes rfl hx.typ.2 hy.typ.2 hs.typ))
  simp only [ProgT.val, entsV, rowV]
  rw [ne]
  exact q
end Go.Proofs.YtfeodppdmbideaaGreatDoor
namespace Go.Proofs.YtfeodppdmbideaaGreatDoor
open Go.ChangeShapes Go.WideShapes Go.ChangeAt Go.RowKit

variable {H : Type} {enc : TypeId × Value → H}
/-- Every size in it is within the reach. -/
def Lite (P : Program) (t : TypeId) (d : DataW H) : Prop := ∀ n ∈ DataW.weights P t d, n ≤ reachBytes
theorem list_choose {α : Type} {p : Nat → α → Prop} : ∀ {n : Nat}, (∀ i, i < n → ∃ x, p i x) → ∃ l : List α, l.length = n ∧ ∀ i (h : i < l.length), p i l[i]
  | 0, _ => ⟨[], rfl, fun i h => absurd h (Nat.not_lt_zero i)⟩
  | n + 1, h => by
    obtain ⟨l, hl, hp⟩ := list_choose (n := n) fun i hi => h i (by omega)
    obtain ⟨x, hx⟩ := h n (by omega)
    refine ⟨l ++ [x], by simp [hl], fun i hi => ?_⟩
    by_cases hin : i < l.length
    · rw [List.getElem_append_left hin]
      exact hp i hin
    · have hi' : i = l.length := by
        rw [List.length_append, List.length_singleton] at hi
        omega
      subst hi'
      rw [List.getElem_append_right (Nat.le_refl _)]
      simp only [Nat.sub_self, List.getElem_cons_zero]
      rw [hl]
      exact hx
theorem weights_of {P : Program} {e : TypeId} {d : DataW H} {n : Nat} : ∀ {l : List (DataW H)}, d ∈ l → n ∈ DataW.weights P e d → n ∈ DataW.weightsAll P e l
  | [], h, _ => by cases h
  | y :: l, h, hn => by
    unfold DataW.weightsAll
    rcases List.mem_cons.1 h with rfl | h
    · exact List.mem_append_left _ hn
    · exact List.mem_append_right _ (weights_of h hn)
theorem Lite.field {P : Program} {t : TypeId} {fs : Array Field} {xs : List (DataW H × List MemPlace)} (ht : P.underlying t = some (.struct fs)) (h : Lite P t (.agg (xs.map (·.1)))) {i : Nat} {f : Field} {x : DataW H × List MemPlace} (hf : fs[i]? = some f) (hx : xs[i]? = some x) : Lite P f.type x.1 := fun n hn => by
  refine h n ?_
  simp only [DataW.weights, ht]
  exact DataW.weights_mem_each (j := i) (by simp [hf]) (by simp [hx]) _ hn
/-- A list of things that come in. -/
theorem open_list {α : Type} {P : Program} {W : World} {t e : TypeId} {sz : Nat} {cv : α → List Value} {good : α → Prop} (ht : P.underlying t = some (.slice e)) (hs : P.cellsOf e = sz) (hsz : 0 < sz) (hcv : ∀ y, (cv y).length = sz) (hbo : Nat.ble 1 (P.bytesOf e) = true)
    (hop : ∀ (fuel : Nat) (cs : List Value) (x : DataW H × List MemPlace), DataW.trod enc P W 0 (fun _ => true) true fuel e cs = some x → Lite P e x.1 → ∃ y, cs = cv y ∧ good y) {fuel : Nat} {cs : List Value} {x : DataW H × List MemPlace}
    (h : DataW.trod enc P W 0 (fun _ => true) true fuel t cs = some x) (hl : Lite P t x.1) :
    ∃ A c, ∃ l : List α, cs = [.slice A l.length c] ∧ Slice A l.length c ∧ Holds W A (l.flatMap cv) ∧ (∀ y ∈ l, good y) ∧ l.length ≤ 140737488351232 := by
  rcases Deep.open_slice ht h with ⟨hcs, _⟩ | ⟨a, n, c, m, q, D, Pl, hcs, _, hlen, hm, hmm, hx0, hi⟩
  · exact ⟨none, 0, [], hcs, slice_nil, Holds.nil _ _, fun x hx => (by cases hx), Nat.zero_le _⟩
  · simp only [if_true] at hmm
    subst hmm
    rw [hs] at hi
    have hdd : x.1 = .slice ((List.range n).map D) ((List.range (m - n)).map fun j => D (n + j)) := congrArg Prod.fst hx0
    have hw : ∀ k ∈ ((n + (m - n)) * P.bytesOf e :: (DataW.weightsAll P e ((List.range n).map D) ++ DataW.weightsAll P e ((List.range (m - n)).map fun j => D (n + j)))), k ≤ reachBytes := fun k hk => by
      refine hl k ?_
      rw [hdd]
      simp only [DataW.weights, ht, List.length_map, List.length_range]
      exact hk
    have hsize : n ≤ 140737488351232 := by
      have h1 := hw _ List.mem_cons_self
      have h2 : (n + (m - n)) * 1 ≤ (n + (m - n)) * P.bytesOf e := Nat.mul_le_mul_left _ (Nat.le_of_ble_eq_true hbo)
      simp only [reachBytes] at h1
      omega
    have hel : ∀ i, i < n → ∃ y : α, (∀ j, j < sz → W.cell? ((a.add (i * sz)).add j) = (cv y)[j]?) ∧ good y := by
      intro i hin
      obtain ⟨cs', hc, htr⟩ := hi i (by omega)
      obtain ⟨_, hcl, hat⟩ := World.cells?_some hc
      have hli : Lite P e (D i) := fun k hk => hw k (List.mem_cons_of_mem _ (List.mem_append_left _ (weights_of (l := (List.range n).map D) (List.mem_map.2 ⟨i, List.mem_range.2 hin, rfl⟩) hk)))
      obtain ⟨y, hy, hg⟩ := hop _ _ _ htr hli
      exact ⟨y, fun j hj => by rw [hat j hj, hy], hg⟩
    obtain ⟨l, hln, hy⟩ := list_choose hel
    subst hln
    rcases Nat.eq_zero_or_pos l.length with h0 | h0
    · refine ⟨some a, m, [], by rw [hcs, h0]; rfl, ⟨Nat.zero_le _, hm, fun h => (by cases h)⟩, Holds.nil _ _, fun x hx => (by cases hx), Nat.zero_le _⟩
    · obtain ⟨b, off, spot⟩ := a
      have hspot : spot = none := by
        have h1 := (hy 0 h0).1 0 hsz
        rw [List.getElem?_eq_getElem (by rw [hcv]; exact hsz)] at h1
        have := World.cell?_spot h1
        simpa [Addr.add] using this
      subst hspot
      refine ⟨some ⟨b, off, none⟩, m, l, hcs, ⟨hlen, hm, fun h => (by cases h)⟩, fun _ => ⟨b, off, rfl, fun k u hu => ?_⟩, fun y hm => ?_, hsize⟩
      · have hk : k < l.length * sz := by
          have := (List.getElem?_eq_some_iff.1 hu).1
          rwa [flat_len (g := cv) hcv] at this
        have hkd : k / sz < l.length := (Nat.div_lt_iff_lt_mul hsz).2 hk
        have hkm : k % sz < sz := Nat.mod_lt _ hsz
        have hke : k = k / sz * sz + k % sz := by rw [Nat.mul_comm]; exact (Nat.div_add_mod k sz).symm
        rw [hke, flat_get (g := cv) hcv hkd hkm] at hu
        have h1 := (hy _ hkd).1 _ hkm
        rw [hu] at h1
        rw [← h1, add_off, add_off]
        congr 2
        rw [Nat.add_assoc, ← hke]
      · obtain ⟨i, hi', rfl⟩ := List.getElem_of_mem hm
        exact (hy i hi').2
theorem Tryz.cellsTermB : Tryz.prog.cellsOf 28 = 1 := by kernel_rfl
theorem Tryz.cellsTerms : Tryz.prog.cellsOf 40 = 1 := by kernel_rfl
theorem Tryz.cellsOrder : Tryz.prog.cellsOf 118 = 3 := by kernel_rfl
theorem Tryz.cellsPrim : Tryz.prog.cellsOf 80 = 2 := by kernel_rfl
theorem Tryz.cellsCtor : Tryz.prog.cellsOf 62 = 2 := by kernel_rfl
theorem Tryz.cellsCtors : Tryz.prog.cellsOf 58 = 1 := by kernel_rfl
theorem Tryz.cellsEntry : Tryz.prog.cellsOf 60 = 7 := by kernel_rfl
theorem Tryz.cellsEntries : Tryz.prog.cellsOf 23 = 1 := by kernel_rfl
theorem Tryz.cellsOrders : Tryz.prog.cellsOf 22 = 1 := by kernel_rfl
theorem Tryz.cellsPrims : Tryz.prog.cellsOf 24 = 1 := by kernel_rfl
theorem Tryz.cellsBook : Tryz.prog.cellsOf 26 = 5 := by kernel_rfl
theorem Tryz.cellsProgram : Tryz.prog.cellsOf 46 = 7 := by kernel_rfl
set_option maxRecDepth 100000 in
theorem node_cs {W : World} (fuel : Nat) (cs : List Value) (x : DataW H × List MemPlace) (h : DataW.trod enc Tryz.prog W 0 (fun _ => true) true fuel 67 cs = some x) (_ : Lite Tryz.prog 67 x.1) : ∃ y : Node3, cs = [.int .i64 y.1, .int .i64 y.2.1, .int .i64 y.2.2] ∧ Wide3 y := by
  obtain ⟨xs, k, _, _, hcl, hxl, hfl⟩ := DataW.trod_struct Tryz.underlying67 h
  rw [Tryz.cellsNode] at hcl
  match cs, hcl with
  | [u0, u1, u2], _ =>
    match xs, hxl with
    | [y0, y1, y2], _ =>
      have g0 := hfl 0 _ rfl
      have g1 := hfl 1 _ rfl
      have g2 := hfl 2 _ rfl
      simp [Tryz.cellsInt] at g0 g1 g2
      obtain ⟨x, e0, _, w0⟩ := DataW.trod_int Tryz.underlying3 g0
      obtain ⟨y, e1, _, w1⟩ := DataW.trod_int Tryz.underlying3 g1
      obtain ⟨z, e2, _, w2⟩ := DataW.trod_int Tryz.underlying3 g2
      simp at e0 e1 e2
      subst e0 e1 e2
      exact ⟨(x, y, z), rfl, i64_wf w0, i64_wf w1, i64_wf w2⟩
set_option maxRecDepth 100000 in
theorem order_cs {W : World} (fuel : Nat) (cs : List Value) (x : DataW H × List MemPlace) (h : DataW.trod enc Tryz.prog W 0 (fun _ => true) true fuel 118 cs = some x) (_ : Lite Tryz.prog 118 x.1) : ∃ y : Node3, cs = [.int .i64 y.1, .int .i64 y.2.1, .int .i64 y.2.2] ∧ Wide3 y := by
  obtain ⟨xs, k, _, _, hcl, hxl, hfl⟩ := DataW.trod_struct Tryz.underlying118 h
  rw [Tryz.cellsOrder] at hcl
  match cs, hcl with
  | [u0, u1, u2], _ =>
    match xs, hxl with
    | [y0, y1, y2], _ =>
      have g0 := hfl 0 _ rfl
      have g1 := hfl 1 _ rfl
      have g2 := hfl 2 _ rfl
      simp [Tryz.cellsInt] at g0 g1 g2
      obtain ⟨x, e0, _, w0⟩ := DataW.trod_int Tryz.underlying3 g0
      obtain ⟨y, e1, _, w1⟩ := DataW.trod_int Tryz.underlying3 g1
      obtain ⟨z, e2, _, w2⟩ := DataW.trod_int Tryz.underlying3 g2
      simp at e0 e1 e2
      subst e0 e1 e2
      exact ⟨(x, y, z), rfl, i64_wf w0, i64_wf w1, i64_wf w2⟩
set_option maxRecDepth 100000 in
theorem prim_cs {W : World} (fuel : Nat) (cs : List Value) (x : DataW H × List MemPlace) (h : DataW.trod enc Tryz.prog W 0 (fun _ => true) true fuel 80 cs = some x) (_ : Lite Tryz.prog 80 x.1) : ∃ y : Int × Int, cs = [.int .i64 y.1, .int .i64 y.2] ∧ I64 y.1 ∧ I64 y.2 := by
  obtain ⟨xs, k, _, _, hcl, hxl, hfl⟩ := DataW.trod_struct Tryz.underlying80 h
  rw [Tryz.cellsPrim] at hcl
  match cs, hcl with
  | [u0, u1], _ =>
    match xs, hxl with
    | [y0, y1], _ =>
      have g0 := hfl 0 _ rfl
      have g1 := hfl 1 _ rfl
      simp [Tryz.cellsInt] at g0 g1
      obtain ⟨x, e0, _, w0⟩ := DataW.trod_int Tryz.underlying3 g0
      obtain ⟨y, e1, _, w1⟩ := DataW.trod_int Tryz.underlying3 g1
      simp at e0 e1
      subst e0 e1
      exact ⟨(x, y), rfl, i64_wf w0, i64_wf w1⟩
/-- A row that came in. -/
def RowG0 (W : World) (y : RowT) : Prop := RowIn1 W y ∧ WideT y.2.2 ∧ y.2.2.length ≤ 140737488351232
set_option maxRecDepth 100000 in
theorem row_cs {W : World} (fuel : Nat) (cs : List Value) (x : DataW H × List MemPlace) (h : DataW.trod enc Tryz.prog W 0 (fun _ => true) true fuel 28 cs = some x) (hl : Lite Tryz.prog 28 x.1) : ∃ y : RowT, cs = [rowV y] ∧ RowG0 W y := by
  obtain ⟨A, c, l, h1, h2, h3, h4, h5⟩ := open_list Tryz.underlying28 Tryz.cellsNode (by decide) (cv := fun y : Node3 => [.int .i64 y.1, .int .i64 y.2.1, .int .i64 y.2.2]) (fun _ => rfl) (by kernel_rfl) node_cs h hl
  exact ⟨(A, c, l), h1, ⟨h2, h3⟩, h4, h5⟩
def RowsG0 (W : World) (y : RowsT) : Prop := RowsIn W y ∧ (∀ x ∈ y.2.2, RowG0 W x) ∧ y.2.2.length ≤ 140737488351232
set_option maxRecDepth 100000 in
theorem rows_cs {W : World} (fuel : Nat) (cs : List Value) (x : DataW H × List MemPlace) (h : DataW.trod enc Tryz.prog W 0 (fun _ => true) true fuel 40 cs = some x) (hl : Lite Tryz.prog 40 x.1) : ∃ y : RowsT, cs = [rowsV y] ∧ RowsG0 W y := by
  obtain ⟨A, c, l, h1, h2, h3, h4, h5⟩ := open_list Tryz.underlying40 Tryz.cellsTermB (by decide) (cv := fun y : RowT => [rowV y]) (fun _ => rfl) (by kernel_rfl) row_cs h hl
  refine ⟨(A, c, l), h1, ⟨h2, ?_, fun y hy => (h4 y hy).1⟩, h4, h5⟩
  have e : ∀ l : List RowT, l.flatMap (fun y => [rowV y]) = l.map rowV := fun l => by
    induction l with
    | nil => rfl
    | cons y l ih => rw [List.flatMap_cons, ih, List.map_cons]; rfl
  rw [← e]
  exact h3
def CtorG0 (W : World) (y : CtorT) : Prop := RowsG0 W y.args ∧ RowsG0 W y.out
set_option maxRecDepth 100000 in
theorem ctor_cs {W : World} (fuel : Nat) (cs : List Value) (x : DataW H × List MemPlace) (h : DataW.trod enc Tryz.prog W 0 (fun _ => true) true fuel 62 cs = some x) (hl : Lite Tryz.prog 62 x.1) : ∃ y : CtorT, cs = y.cells ∧ CtorG0 W y := by
  obtain ⟨xs, k, _, hx, hcl, hxl, hfl⟩ := DataW.trod_struct Tryz.underlying62 h
  rw [Tryz.cellsCtor] at hcl
  rw [hx] at hl
  match cs, hcl with
  | [u0, u1], _ =>
    match xs, hxl with
    | [y0, y1], _ =>
      have g0 := hfl 0 _ rfl
      have g1 := hfl 1 _ rfl
      have l0 := Lite.field Tryz.underlying62 hl (i := 0) rfl rfl
      have l1 := Lite.field Tryz.underlying62 hl (i := 1) rfl rfl
      simp [Tryz.cellsTerms] at g0 g1
      obtain ⟨a, e0, h0⟩ := rows_cs _ _ _ g0 l0
      obtain ⟨b, e1, h1⟩ := rows_cs _ _ _ g1 l1
      simp at e0 e1
      subst e0 e1
      exact ⟨⟨a, b⟩, rfl, h0, h1⟩
def CtorsG0 (W : World) (y : CtorsT) : Prop := CtorsIn W y ∧ (∀ x ∈ y.2.2, CtorG0 W x) ∧ y.2.2.length ≤ 140737488351232
set_option maxRecDepth 100000 in
theorem ctors_cs {W : World} (fuel : Nat) (cs : List Value) (x : DataW H × List MemPlace) (h : DataW.trod enc Tryz.prog W 0 (fun _ => true) true fuel 58 cs = some x) (hl : Lite Tryz.prog 58 x.1) : ∃ y : CtorsT, cs = [ctorsV y] ∧ CtorsG0 W y := by
  obtain ⟨A, c, l, h1, h2, h3, h4, h5⟩ := open_list Tryz.underlying58 Tryz.cellsCtor (by decide) (cv := CtorT.cells) (fun _ => rfl) (by kernel_rfl) ctor_cs h hl
  exact ⟨(A, c, l), h1, ⟨h2, h3, fun y hy => ⟨(h4 y hy).1.1, (h4 y hy).2.1⟩⟩, h4, h5⟩
structure EntG0 (W : World) (y : EntT) : Prop where
  kind : I64 y.kind
  sort : RowG0 W y.sort
  pars : RowsG0 W y.pars
  inds : RowsG0 W y.inds
  ctors : CtorsG0 W y.ctors
  typ : RowG0 W y.typ
  body : RowG0 W y.body
set_option maxRecDepth 100000 in
theorem entry_cs {W : World} (fuel : Nat) (cs : List Value) (x : DataW H × List MemPlace) (h : DataW.trod enc Tryz.prog W 0 (fun _ => true) true fuel 60 cs = some x) (hl : Lite Tryz.prog 60 x.1) : ∃ y : EntT, cs = y.cells ∧ EntG0 W y := by
  obtain ⟨xs, k, _, hx, hcl, hxl, hfl⟩ := DataW.trod_struct Tryz.underlying60 h
  rw [Tryz.cellsEntry] at hcl
  rw [hx] at hl
  match cs, hcl with
  | [u0, u1, u2, u3, u4, u5, u6], _ =>
    match xs, hxl with
    | [y0, y1, y2, y3, y4, y5, y6], _ =>
      have g0 := hfl 0 _ rfl
      have g1 := hfl 1 _ rfl
      have g2 := hfl 2 _ rfl
      have g3 := hfl 3 _ rfl
      have g4 := hfl 4 _ rfl
      have g5 := hfl 5 _ rfl
      have g6 := hfl 6 _ rfl
      have l1 := Lite.field Tryz.underlying60 hl (i := 1) rfl rfl
      have l2 := Lite.field Tryz.underlying60 hl (i := 2) rfl rfl
      have l3 := Lite.field Tryz.underlying60 hl (i := 3) rfl rfl
      have l4 := Lite.field Tryz.underlying60 hl (i := 4) rfl rfl
      have l5 := Lite.field Tryz.underlying60 hl (i := 5) rfl rfl
      have l6 := Lite.field Tryz.underlying60 hl (i := 6) rfl rfl
      simp [Tryz.cellsInt, Tryz.cellsTermB, Tryz.cellsTerms, Tryz.cellsCtors] at g0 g1 g2 g3 g4 g5 g6
      obtain ⟨x0, e0, _, w0⟩ := DataW.trod_int Tryz.underlying3 g0
      obtain ⟨x1, e1, h1⟩ := row_cs _ _ _ g1 l1
      obtain ⟨x2, e2, h2⟩ := rows_cs _ _ _ g2 l2
      obtain ⟨x3, e3, h3⟩ := rows_cs _ _ _ g3 l3
      obtain ⟨x4, e4, h4⟩ := ctors_cs _ _ _ g4 l4
      obtain ⟨x5, e5, h5⟩ := row_cs _ _ _ g5 l5
      obtain ⟨x6, e6, h6⟩ := row_cs _ _ _ g6 l6
      simp at e0 e1 e2 e3 e4 e5 e6
      subst e0 e1 e2 e3 e4 e5 e6
      exact ⟨⟨x0, x1, x2, x3, x4, x5, x6⟩, rfl, i64_wf w0, h1, h2, h3, h4, h5, h6⟩
def EntsG0 (W : World) (y : EntsT) : Prop := EntsIn W y ∧ (∀ x ∈ y.2.2, EntG0 W x) ∧ y.2.2.length ≤ 140737488351232
theorem EntG0.inn {W : World} {y : EntT} (h : EntG0 W y) : EntIn W y := ⟨h.sort.1, h.pars.1, h.inds.1, h.ctors.1, h.typ.1, h.body.1⟩
set_option maxRecDepth 100000 in
theorem ents_cs {W : World} (fuel : Nat) (cs : List Value) (x : DataW H × List MemPlace) (h : DataW.trod enc Tryz.prog W 0 (fun _ => true) true fuel 23 cs = some x) (hl : Lite Tryz.prog 23 x.1) : ∃ y : EntsT, cs = [entsV y] ∧ EntsG0 W y := by
  obtain ⟨A, c, l, h1, h2, h3, h4, h5⟩ := open_list Tryz.underlying23 Tryz.cellsEntry (by decide) (cv := EntT.cells) (fun _ => rfl) (by kernel_rfl) entry_cs h hl
  exact ⟨(A, c, l), h1, ⟨h2, h3, fun y hy => (h4 y hy).inn⟩, h4, h5⟩
structure BookG0 (W : World) (b : BookT) : Prop where
  vars : I64 b.vars
  nat : I64 b.nat
  ords : (Slice b.ords.1 b.ords.2.2.length b.ords.2.1 ∧ Holds W b.ords.1 (ordsV b.ords.2.2)) ∧ (∀ x ∈ b.ords.2.2, Wide3 x) ∧ b.ords.2.2.length ≤ 140737488351232
  ents : EntsG0 W b.ents
  prims : (Slice b.prims.1 b.prims.2.2.length b.prims.2.1 ∧ Holds W b.prims.1 (atomsV b.prims.2.2)) ∧ (∀ x ∈ b.prims.2.2, I64 x.1 ∧ I64 x.2) ∧ b.prims.2.2.length ≤ 140737488351232
set_option maxRecDepth 100000 in
theorem book_fields {W : World} {n : Nat} {u0 u1 u2 u3 u4 : Value} {x0 x1 x2 x3 x4 : DataW H × List MemPlace} (g0 : DataW.trod enc Tryz.prog W 0 (fun _ => true) true n 3 [u0] = some x0) (g1 : DataW.trod enc Tryz.prog W 0 (fun _ => true) true n 22 [u1] = some x1)
    (g2 : DataW.trod enc Tryz.prog W 0 (fun _ => true) true n 23 [u2] = some x2) (g3 : DataW.trod enc Tryz.prog W 0 (fun _ => true) true n 3 [u3] = some x3) (g4 : DataW.trod enc Tryz.prog W 0 (fun _ => true) true n 24 [u4] = some x4)
    (l1 : Lite Tryz.prog 22 x1.1) (l2 : Lite Tryz.prog 23 x2.1) (l4 : Lite Tryz.prog 24 x4.1) :
    ∃ b : BookT, (.agg #[u0, u1, u2, u3, u4] : Value) = b.val ∧ BookG0 W b := by
  obtain ⟨v, e0, _, w0⟩ := DataW.trod_int Tryz.underlying3 g0
  obtain ⟨A1, c1, o, e1, h1, h1', h1w, h1l⟩ := open_list Tryz.underlying22 Tryz.cellsOrder (by decide) (cv := fun y : Node3 => [.int .i64 y.1, .int .i64 y.2.1, .int .i64 y.2.2]) (fun _ => rfl) (by kernel_rfl) order_cs g1 l1
  obtain ⟨y, e2, h2⟩ := ents_cs _ _ _ g2 l2
  obtain ⟨k, e3, _, w3⟩ := DataW.trod_int Tryz.underlying3 g3
  obtain ⟨A4, c4, p, e4, h4, h4', h4w, h4l⟩ := open_list Tryz.underlying24 Tryz.cellsPrim (by decide) (cv := fun y : Int × Int => [.int .i64 y.1, .int .i64 y.2]) (fun _ => rfl) (by kernel_rfl) prim_cs g4 l4
  simp at e0 e1 e2 e3 e4
  subst e0 e1 e2 e3 e4
  exact ⟨⟨v, (A1, c1, o), y, k, (A4, c4, p)⟩, rfl, i64_wf w0, i64_wf w3, ⟨⟨h1, h1'⟩, h1w, h1l⟩, h2, ⟨h4, h4'⟩, h4w, h4l⟩
end Go.Proofs.YtfeodppdmbideaaGreatDoor
namespace Go.Proofs.YtfeodppdmbideaaGreatDoor
open Go.ChangeShapes Go.WideShapes Go.ChangeAt Go.RowKit

variable {H : Type} {enc : TypeId × Value → H}
theorem Lite.of {P : Program} {ts : List TypeId} {ds : List (DataW H)} (hsz : (DataW.weightsEach P ts ds).all (· ≤ reachBytes) = true) {j : Nat} {t : TypeId} {d : DataW H} (ht : ts[j]? = some t) (hd : ds[j]? = some d) : Lite P t d := fun n hn => by
  have := List.all_eq_true.1 hsz _ (DataW.weights_mem_each ht hd _ hn)
  simpa using this
theorem byte_cs {W : World} (fuel : Nat) (cs : List Value) (x : DataW H × List MemPlace) (h : DataW.trod enc Tryz.prog W 0 (fun _ => true) true fuel 5 cs = some x) (_ : Lite Tryz.prog 5 x.1) : ∃ y : Nat, cs = [.int .u8 (y : Int)] ∧ y < 256 := by
  obtain ⟨y, e, _, wb⟩ := DataW.trod_int Tryz.underlying5 h
  have h1 : IntKind.u8.min = 0 := rfl
  have h2 : IntKind.u8.max = 255 := rfl
  simp only [Lit.wf, Bool.and_eq_true, decide_eq_true_eq] at wb
  refine ⟨y.toNat, ?_, by omega⟩
  rw [e, Int.toNat_of_nonneg (by omega)]
theorem Tryz.cellsU8 : Tryz.prog.cellsOf 5 = 1 := by kernel_rfl
set_option maxRecDepth 100000 in
theorem open_bytes {W : World} {base : Nat} {v : Value} {d : DataW H} {p : List MemPlace} (hl : Lite Tryz.prog 47 d) (hv : Value.okWide Tryz.prog W .any base 47 v) (h : DataW.Trod enc Tryz.prog W 0 (fun _ => true) true 47 v d p) :
    ∃ A c b, v = .slice A b.length c ∧ Slice A b.length c ∧ Holds W A (bytesV b) ∧ Bytes b := by
  obtain ⟨A0, n0, c0, rfl⟩ := okWide_slice Tryz.underlying47 hv
  obtain ⟨fuel, hf⟩ := h
  obtain ⟨A, c, b, h1, h2, h3, h4, -⟩ := open_list Tryz.underlying47 Tryz.cellsU8 (by decide) (cv := fun y : Nat => [.int .u8 (y : Int)]) (fun _ => rfl) (by kernel_rfl) byte_cs hf hl
  simp [Value.cells] at h1
  obtain ⟨rfl, rfl, rfl⟩ := h1
  refine ⟨A0, c0, b, rfl, h2, ?_, h4⟩
  have e : ∀ l : List Nat, l.flatMap (fun (y : Nat) => [(.int .u8 (y : Int) : Value)]) = bytesV l := fun l => by
    induction l with
    | nil => rfl
    | cons y l ih => rw [List.flatMap_cons, ih]; rfl
  rw [← e]
  exact h3
set_option maxRecDepth 100000 in
theorem book_cs {W : World} (fuel : Nat) (cs : List Value) (x : DataW H × List MemPlace) (h : DataW.trod enc Tryz.prog W 0 (fun _ => true) true fuel 26 cs = some x) (hl : Lite Tryz.prog 26 x.1) :
    ∃ b : BookT, cs = [.int .i64 b.vars, .slice b.ords.1 b.ords.2.2.length b.ords.2.1, entsV b.ents, .int .i64 b.nat, .slice b.prims.1 b.prims.2.2.length b.prims.2.1] ∧ BookG0 W b := by
  obtain ⟨xs, k, _, hx, hcl, hxl, hfl⟩ := DataW.trod_struct Tryz.underlying26 h
  rw [Tryz.cellsBook] at hcl
  rw [hx] at hl
  match cs, hcl with
  | [u0, u1, u2, u3, u4], _ =>
    match xs, hxl with
    | [y0, y1, y2, y3, y4], _ =>
      have g0 := hfl 0 _ rfl
      have g1 := hfl 1 _ rfl
      have g2 := hfl 2 _ rfl
      have g3 := hfl 3 _ rfl
      have g4 := hfl 4 _ rfl
      have l1 := Lite.field Tryz.underlying26 hl (i := 1) rfl rfl
      have l2 := Lite.field Tryz.underlying26 hl (i := 2) rfl rfl
      have l4 := Lite.field Tryz.underlying26 hl (i := 4) rfl rfl
      simp [Tryz.cellsInt, Tryz.cellsOrders, Tryz.cellsEntries, Tryz.cellsPrims] at g0 g1 g2 g3 g4
      obtain ⟨b, hb, hg⟩ := book_fields g0 g1 g2 g3 g4 l1 l2 l4
      simp only [BookT.val, Value.agg.injEq, Array.mk.injEq] at hb
      exact ⟨b, hb, hg⟩
structure ProgG0 (W : World) (x : ProgT) : Prop where
  book : BookG0 W x.book
  main : RowG0 W x.main
  typ : RowG0 W x.typ
set_option maxRecDepth 100000 in
theorem prog_cs {W : World} (fuel : Nat) (cs : List Value) (x : DataW H × List MemPlace) (h : DataW.trod enc Tryz.prog W 0 (fun _ => true) true fuel 46 cs = some x) (hl : Lite Tryz.prog 46 x.1) :
    ∃ p : ProgT, cs = [.int .i64 p.book.vars, .slice p.book.ords.1 p.book.ords.2.2.length p.book.ords.2.1, entsV p.book.ents, .int .i64 p.book.nat, .slice p.book.prims.1 p.book.prims.2.2.length p.book.prims.2.1, rowV p.main, rowV p.typ] ∧ ProgG0 W p := by
  obtain ⟨xs, k, _, hx, hcl, hxl, hfl⟩ := DataW.trod_struct Tryz.underlying46 h
  rw [Tryz.cellsProgram] at hcl
  rw [hx] at hl
  match cs, hcl with
  | [u0, u1, u2, u3, u4, u5, u6], _ =>
    match xs, hxl with
    | [y0, y1, y2], _ =>
      have g0 := hfl 0 _ rfl
      have g1 := hfl 1 _ rfl
      have g2 := hfl 2 _ rfl
      have l0 := Lite.field Tryz.underlying46 hl (i := 0) rfl rfl
      have l1 := Lite.field Tryz.underlying46 hl (i := 1) rfl rfl
      have l2 := Lite.field Tryz.underlying46 hl (i := 2) rfl rfl
      simp [Tryz.cellsBook, Tryz.cellsTermB] at g0 g1 g2
      obtain ⟨b, e0, h0⟩ := book_cs _ _ _ g0 l0
      obtain ⟨m, e1, h1⟩ := row_cs _ _ _ g1 l1
      obtain ⟨t, e2, h2⟩ := row_cs _ _ _ g2 l2
      simp at e0 e1 e2
      obtain ⟨rfl, rfl, rfl, rfl, rfl⟩ := e0
      subst e1 e2
      exact ⟨⟨b, m, t⟩, rfl, h0, h1, h2⟩
set_option maxRecDepth 100000 in
theorem open_book {W : World} {base : Nat} {v : Value} {d : DataW H} {p : List MemPlace} (hl : Lite Tryz.prog 26 d) (hv : Value.okWide Tryz.prog W .any base 26 v) (h : DataW.Trod enc Tryz.prog W 0 (fun _ => true) true 26 v d p) :
    ∃ b : BookT, v = b.val ∧ BookG0 W b := by
  obtain ⟨cs, rfl, _⟩ := okWide_struct Tryz.underlying26 hv
  obtain ⟨fuel, hf⟩ := h
  obtain ⟨b, e, hb⟩ := book_cs _ _ _ hf hl
  refine ⟨b, ?_, hb⟩
  have : cs = cs.toList.toArray := by simp
  rw [this]
  simp only [Value.cells] at e
  rw [e]
set_option maxRecDepth 100000 in
theorem open_program {W : World} {base : Nat} {v : Value} {d : DataW H} {p : List MemPlace} (hl : Lite Tryz.prog 46 d) (hv : Value.okWide Tryz.prog W .any base 46 v) (h : DataW.Trod enc Tryz.prog W 0 (fun _ => true) true 46 v d p) :
    ∃ x : ProgT, v = x.val ∧ ProgG0 W x := by
  obtain ⟨cs, rfl, _⟩ := okWide_struct Tryz.underlying46 hv
  obtain ⟨fuel, hf⟩ := h
  obtain ⟨b, e, hb⟩ := prog_cs _ _ _ hf hl
  refine ⟨b, ?_, hb⟩
  have : cs = cs.toList.toArray := by simp
  rw [this]
  simp only [Value.cells] at e
  rw [e]
theorem RowsG0.wide {W : World} {y : RowsT} (h : RowsG0 W y) : WideRows y.2.2 ∧ LongR y.2.2 ∧ y.2.2.length ≤ 4611686018427387904 :=
  ⟨fun x hx n hn => (h.2.1 x hx).2.1 n hn, fun x hx => by have := (h.2.1 x hx).2.2; omega, by have := h.2.2; omega⟩
theorem CtorG0.ok {W : World} {c : CtorT} (h : CtorG0 W c) : CtorOk W c := ⟨⟨h.1.1, h.2.1⟩, ⟨h.1.wide.1, h.2.wide.1⟩, ⟨h.1.wide.2.1, h.2.wide.2.1⟩, h.1.wide.2.2, h.2.wide.2.2⟩
theorem EntG0.ok {W : World} {x : EntT} (h : EntG0 W x) : EntOk W x :=
  ⟨h.inn, ⟨h.kind, h.sort.2.1, h.pars.wide.1, h.inds.wide.1, fun c hc => (h.ctors.2.1 c hc).ok.wide, h.typ.2.1, h.body.2.1⟩,
    ⟨h.pars.wide.2.1, h.inds.wide.2.1, by have := h.sort.2.2; omega, by have := h.typ.2.2; omega, by have := h.body.2.2; omega⟩, ⟨h.pars.wide.2.2, h.inds.wide.2.2, by have := h.ctors.2.2; omega⟩, fun c hc => (h.ctors.2.1 c hc).ok⟩
theorem BookG0.ok {W : World} {b : BookT} (h : BookG0 W b) : BookOk W b :=
  ⟨⟨h.ords.1, h.ents.1, h.prims.1⟩, ⟨h.vars, h.nat, h.ords.2.1, fun x hx => (h.ents.2.1 x hx).ok.wide, h.prims.2.1⟩, fun x hx => (h.ents.2.1 x hx).ok, by have := h.ords.2.2; omega, by have := h.ents.2.2; omega, by have := h.prims.2.2; omega⟩
theorem ProgG0.ok {W : World} {x : ProgT} (h : ProgG0 W x) : ProgOk W x := ⟨h.book.ok, fun y hy => by
    simp only [List.mem_cons, List.not_mem_nil, or_false] at hy
    rcases hy with rfl | rfl
    · exact h.main.1
    · exact h.typ.1, fun y hy n hn => by
    simp only [List.mem_cons, List.not_mem_nil, or_false] at hy
    rcases hy with rfl | rfl
    · exact h.main.2.1 n hn
    · exact h.typ.2.1 n hn, fun y hy => by
    simp only [List.mem_cons, List.not_mem_nil, or_false] at hy
    rcases hy with rfl | rfl
    · have := h.main.2.2; omega
    · have := h.typ.2.2; omega⟩
end Go.Proofs.YtfeodppdmbideaaGreatDoor
