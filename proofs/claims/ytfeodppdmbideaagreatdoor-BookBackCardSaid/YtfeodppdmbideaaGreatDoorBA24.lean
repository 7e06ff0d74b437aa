/- The way to the laws of books: BDecP to BByte. -/
import Derived.Test.YtfeodppdmbideaaGreatDoorBA14
import Derived.Test.YtfeodppdmbideaaGreatDoorBA17
import Derived.Test.YtfeodppdmbideaaGreatDoorBA23
import Derived.Test.YtfeodppdmbideaaGreatDoorBA8
namespace Go.Proofs.YtfeodppdmbideaaGreatDoor
open Go.RowKit

def RowB (t : List Node3) : Prop := t.length ≤ 4096 ∧ ∀ n ∈ t, Wide3 n
def RowsB (l : List (List Node3)) : Prop := l.length ≤ 255 ∧ ∀ t ∈ l, RowB t
structure EntB (x : EntP) : Prop where
  kind : I64 x.kind
  sort : RowB x.sort
  pars : RowsB x.pars
  inds : RowsB x.inds
  many : x.ctors.length ≤ 255
  ctors : ∀ c ∈ x.ctors, RowsB c.args ∧ RowsB c.out
  typ : RowB x.typ
  body : RowB x.body
structure BookB (b : BookP) : Prop where
  vars : I64 b.vars
  nat : I64 b.nat
  ords : ∀ x ∈ b.ords, Wide3 x
  nords : b.ords.length ≤ 255
  ents : ∀ x ∈ b.ents, EntB x
  nents : b.ents.length ≤ 255
  prims : ∀ x ∈ b.prims, I64 x.1 ∧ I64 x.2
  nprims : b.prims.length ≤ 255
structure ProgB (p : ProgP) : Prop where
  book : BookB p.book
  main : RowB p.main
  typ : RowB p.typ
theorem num255 (s : St) : I64 ((numS 255 s).1 : Int) := by
  have h : (numS 255 s).1 ≤ 255 := by simpa using numS_le 255 s
  exact ⟨by omega, by omega⟩
theorem node_wide (s : St) : Wide3 (nodeS s).1 := by
  unfold nodeS Wide3
  have h1 : ∀ s, (numS 255 s).1 ≤ 255 := fun s => by simpa using numS_le 255 s
  have h2 : ∀ s, (numS 1048576 s).1 ≤ 1048576 := fun s => by simpa using numS_le 1048576 s
  have a := h1 s
  have b := h2 (numS 255 s).2
  have c := h2 (numS 1048576 (numS 255 s).2).2
  exact ⟨⟨by simp only; omega, by simp only; omega⟩, ⟨by simp only; omega, by simp only; omega⟩, by simp only; omega, by simp only; omega⟩
theorem rowA_wide : ∀ (n : Nat) (t : List Node3) (s : St), (∀ x ∈ t, Wide3 x) → ∀ x ∈ (orowA n t s).1, Wide3 x
  | 0, _, _, h => h
  | n + 1, t, s, h => by
    rw [orowA]
    split
    · intro x hx
      cases hx
    · exact rowA_wide n _ _ fun x hx => by
        rcases List.mem_append.1 hx with hx | hx
        · exact h x hx
        · rw [List.mem_singleton] at hx
          subst hx
          exact node_wide s
theorem rowS_B (s : St) : RowB (rowS s).1 := by
  unfold rowS
  refine ⟨?_, rowA_wide _ _ _ fun _ hx => (by cases hx)⟩
  have h1 := rowA_len (numS 4096 s).1 [] (numS 4096 s).2
  have h2 : (numS 4096 s).1 ≤ 4096 := by simpa using numS_le 4096 s
  simp only [List.length_nil] at h1
  omega
theorem many_all {β : Type} {rd : St → β × St} {p : β → Prop} (h : ∀ s, p (rd s).1) : ∀ (n : Nat) (l : List β) (s : St), (∀ x ∈ l, p x) → ∀ x ∈ (manyS rd n l s).1, p x
  | 0, _, _, hl => hl
  | n + 1, l, s, hl => by
    rw [manyS]
    exact many_all h n _ _ fun x hx => by
      rcases List.mem_append.1 hx with hx | hx
      · exact hl x hx
      · rw [List.mem_singleton] at hx
        subst hx
        exact h s
theorem all_B {β : Type} {rd : St → β × St} {p : β → Prop} (h : ∀ s, p (rd s).1) (s : St) : (allS rd s).1.length ≤ 255 ∧ ∀ x ∈ (allS rd s).1, p x := by
  unfold allS
  refine ⟨?_, many_all h _ _ _ fun _ hx => (by cases hx)⟩
  rw [manyS_len, List.length_nil, Nat.zero_add]
  simpa using numS_le 255 s
theorem rows_B (s : St) : RowsB (allS rowS s).1 := all_B (p := RowB) rowS_B s
theorem nil_B : RowB [] := ⟨by simp, fun _ hx => (by cases hx)⟩
theorem nils_B : RowsB [] := ⟨by simp, fun _ hx => (by cases hx)⟩
theorem i64_few {x : Int} (h0 : -1000 ≤ x) (h1 : x ≤ 1000) : I64 x := ⟨by omega, by omega⟩
theorem ctorS_B (s : St) : RowsB (ctorS s).1.args ∧ RowsB (ctorS s).1.out := by
  unfold ctorS
  exact ⟨rows_B s, rows_B (allS rowS s).2⟩
theorem fam_B (s : St) : EntB (entFam s).1 := by
  have h1 := rowS_B s
  have h2 := rows_B (rowS s).2
  have h3 := rows_B (allS rowS (rowS s).2).2
  obtain ⟨h4, h5⟩ := all_B (rd := ctorS) (p := fun c => RowsB c.args ∧ RowsB c.out) ctorS_B (allS rowS (allS rowS (rowS s).2).2).2
  unfold entFam
  generalize (allS ctorS (allS rowS (allS rowS (rowS s).2).2).2) = r4 at *
  generalize (allS rowS (allS rowS (rowS s).2).2) = r3 at *
  generalize (allS rowS (rowS s).2) = r2 at *
  generalize rowS s = r1 at *
  exact ⟨(i64_few (x := 1) (by decide) (by decide) : I64 1), h1, h2, h3, h4, h5, nil_B, nil_B⟩
theorem def_B (s : St) : EntB (entDef s).1 := by
  have h1 := rowS_B s
  have h2 := rowS_B (rowS s).2
  unfold entDef
  generalize rowS (rowS s).2 = r2 at *
  generalize rowS s = r1 at *
  exact ⟨(i64_few (x := 2) (by decide) (by decide) : I64 2), nil_B, nils_B, nils_B, Nat.zero_le _, fun _ hx => (by cases hx), h1, h2⟩
theorem ent_B (s : St) : EntB (entS s).1 := by
  unfold entS
  split
  · exact fam_B _
  · split
    · exact def_B _
    · exact ⟨(i64_few (x := 0) (by decide) (by decide) : I64 0), nil_B, nils_B, nils_B, Nat.zero_le _, fun _ hx => (by cases hx), nil_B, nil_B⟩
theorem signed_B (s : St) : I64 (signedS s).1 := unfold_small (nextS_le _ _)
theorem ord_B (s : St) : Wide3 (ordS s).1 := by
  have h1 := num255 s
  have h2 := signed_B (numS 255 s).2
  have h3 := num255 (signedS (numS 255 s).2).2
  unfold ordS
  generalize numS 255 (signedS (numS 255 s).2).2 = c at *
  generalize signedS (numS 255 s).2 = b at *
  generalize numS 255 s = a at *
  exact ⟨h1, h2, h3⟩
theorem prim_B (s : St) : I64 (primS s).1.1 ∧ I64 (primS s).1.2 := by
  have h1 := num255 s
  have h2 := num255 (numS 255 s).2
  unfold primS
  generalize numS 255 (numS 255 s).2 = b at *
  generalize numS 255 s = a at *
  exact ⟨h1, h2⟩
theorem book_B (s : St) : BookB (bookS s).1 := by
  have h0 := num255 s
  obtain ⟨h1, h2⟩ := all_B (rd := ordS) (p := Wide3) ord_B (numS 255 s).2
  obtain ⟨h3, h4⟩ := all_B (rd := entS) (p := EntB) ent_B (allS ordS (numS 255 s).2).2
  have h7 : (numS 255 (allS entS (allS ordS (numS 255 s).2).2).2).1 ≤ 255 := by simpa using numS_le 255 (allS entS (allS ordS (numS 255 s).2).2).2
  obtain ⟨h5, h6⟩ := all_B (rd := primS) (p := fun x => I64 x.1 ∧ I64 x.2) prim_B (numS 255 (allS entS (allS ordS (numS 255 s).2).2).2).2
  unfold bookS
  simp only
  generalize allS primS (numS 255 (allS entS (allS ordS (numS 255 s).2).2).2).2 = r5 at *
  generalize numS 255 (allS entS (allS ordS (numS 255 s).2).2).2 = r4 at *
  generalize allS entS (allS ordS (numS 255 s).2).2 = r3 at *
  generalize allS ordS (numS 255 s).2 = r2 at *
  generalize numS 255 s = r1 at *
  exact ⟨h0, i64_few (x := (r4.1 : Int) - 1) (by omega) (by omega), h2, h1, h4, h3, h6, h5⟩
theorem prog_B (s : St) : ProgB (progS s).1 := by
  have h1 := book_B s
  have h2 := rowS_B (bookS s).2
  have h3 := rowS_B (rowS (bookS s).2).2
  unfold progS
  generalize rowS (rowS (bookS s).2).2 = r3 at *
  generalize rowS (bookS s).2 = r2 at *
  generalize bookS s = r1 at *
  exact ⟨h1, h2, h3⟩

theorem OwnT.inn {F : Nat → Prop} {w : World} {x : RowT} (h : OwnT F w x) : RowIn1 w x := by
  obtain ⟨A, c, e, hs, -⟩ := own_slice h.1
  cases e
  exact ⟨hs, own_holds h.1⟩
theorem OwnL.slice {α : Type} {T : Thing α} {E sz : Nat} {F : Nat → Prop} {w : World} {x : Option Addr × Nat × List α} (h : OwnL T E sz F w x) : Slice x.1 x.2.2.length x.2.1 ∧ Holds w x.1 (x.2.2.flatMap T.cells) := by
  obtain ⟨A, c, e, hs, -⟩ := own_slice h.1
  cases e
  exact ⟨hs, own_holds h.1⟩
theorem row_cells : ∀ l : List RowT, l.flatMap tRow.cells = l.map rowV
  | [] => rfl
  | x :: l => by rw [List.flatMap_cons, row_cells l]; rfl
theorem OwnTs.inn {F : Nat → Prop} {w : World} {x : RowsT} (h : OwnTs F w x) : RowsIn w x := by
  obtain ⟨h1, h2⟩ := h.slice
  rw [row_cells] at h2
  exact ⟨h1, h2, fun y hy => OwnT.inn (h.2.2 y hy)⟩
theorem OwnE.inn {F : Nat → Prop} {w : World} {x : EntT} (h : OwnE F w x) : EntIn w x := ⟨OwnT.inn h.sort, OwnTs.inn h.pars, OwnTs.inn h.inds, ⟨h.ctors.slice.1, h.ctors.slice.2, fun c hc => ⟨OwnTs.inn (h.ctors.2.2 c hc).1, OwnTs.inn (h.ctors.2.2 c hc).2⟩⟩, OwnT.inn h.typ, OwnT.inn h.body⟩
theorem RowsB.ok {l : List RowT} (h : RowsB (l.map fun y => y.2.2)) : WideRows l ∧ LongR l ∧ l.length ≤ 255 := by
  obtain ⟨h1, h2⟩ := h
  rw [List.length_map] at h1
  exact ⟨fun x hx => (h2 _ (List.mem_map_of_mem hx)).2, fun x hx => by have := (h2 _ (List.mem_map_of_mem hx)).1; omega, h1⟩
theorem OwnE.ok {F : Nat → Prop} {w : World} {x : EntT} (h : OwnE F w x) (hb : EntB x.p) : EntOk w x := by
  have h1 := RowsB.ok hb.pars
  have h2 := RowsB.ok hb.inds
  have h3 : x.ctors.2.2.length ≤ 255 := by have := hb.many; simpa [EntT.p] using this
  have hc : ∀ c ∈ x.ctors.2.2, (WideRows c.args.2.2 ∧ LongR c.args.2.2 ∧ c.args.2.2.length ≤ 255) ∧ WideRows c.out.2.2 ∧ LongR c.out.2.2 ∧ c.out.2.2.length ≤ 255 := fun c hc => ⟨RowsB.ok (hb.ctors c.p (List.mem_map_of_mem hc)).1, RowsB.ok (hb.ctors c.p (List.mem_map_of_mem hc)).2⟩
  have hs := hb.sort.1
  have ht := hb.typ.1
  have hd := hb.body.1
  simp only [EntT.p] at hs ht hd
  exact ⟨h.inn, ⟨hb.kind, hb.sort.2, h1.1, h2.1, fun c hcm => ⟨(hc c hcm).1.1, (hc c hcm).2.1⟩, hb.typ.2, hb.body.2⟩, ⟨h1.2.1, h2.2.1, by omega, by omega, by omega⟩, ⟨by omega, by omega, by omega⟩,
    fun c hcm => ⟨h.inn.ctors.2.2 c hcm, ⟨(hc c hcm).1.1, (hc c hcm).2.1⟩, ⟨(hc c hcm).1.2.1, (hc c hcm).2.2.1⟩, ⟨by have := (hc c hcm).1.2.2; omega, by have := (hc c hcm).2.2.2; omega⟩⟩⟩
theorem OwnG.ok {F : Nat → Prop} {w : World} {p : ProgT} (h : OwnG F w p) (hb : ProgB p.p) : ProgOk w p := by
  obtain ⟨⟨b1, b2, b3, b4, b5, b6, b7, b8⟩, m, y⟩ := hb
  have e1 : p.p.book.ents = p.book.ents.2.2.map EntT.p := rfl
  rw [e1, List.length_map] at b6
  have b4' : p.book.ords.2.2.length ≤ 255 := b4
  have b8' : p.book.prims.2.2.length ≤ 255 := b8
  have hE : ∀ x ∈ p.book.ents.2.2, EntB x.p := fun x hx => b5 _ (List.mem_map_of_mem hx)
  have hrows : ∀ x ∈ [p.main, p.typ], RowIn1 w x ∧ RowB x.2.2 := fun x hx => by
    simp only [List.mem_cons, List.not_mem_nil, or_false] at hx
    rcases hx with rfl | rfl
    · exact ⟨OwnT.inn h.main, m⟩
    · exact ⟨OwnT.inn h.typ, y⟩
  refine ⟨⟨⟨h.book.ords.slice, ⟨h.book.ents.slice.1, h.book.ents.slice.2, fun x hx => (h.book.ents.2.2 x hx).inn⟩, h.book.prims.slice⟩, ⟨b1, b2, b3, fun x hx => ((h.book.ents.2.2 x hx).ok (hE x hx)).wide, b7⟩, fun x hx => (h.book.ents.2.2 x hx).ok (hE x hx), ⟨by omega, by omega, by omega⟩⟩,
    fun x hx => (hrows x hx).1, fun x hx => (hrows x hx).2.2, fun x hx => by have := (hrows x hx).2.1; omega⟩
end Go.Proofs.YtfeodppdmbideaaGreatDoor
namespace Go.Proofs.YtfeodppdmbideaaGreatDoor
open Go.RowKit

abbrev progZ : ProgT := ⟨⟨0, (none, 0, []), (none, 0, []), 0, (none, 0, [])⟩, (none, 0, []), (none, 0, [])⟩
def progN : ProgP := ⟨⟨0, [], [], 0, []⟩, [], []⟩
/-- The program of bytes, or an error. -/
noncomputable def decodeS (b : List Nat) : ProgP × Int :=
  if 65536 < b.length then (progN, 6) else if (progS (b, 0)).2.2 ≠ 0 then (progN, ((progS (b, 0)).2.2 : Int)) else if 0 < (progS (b, 0)).2.1.length then (progN, 3)
  else if progE (progS (b, 0)).1 ≠ 0 then (progN, progE (progS (b, 0)).1) else ((progS (b, 0)).1, 0)
/-- What Decode answers: a program in memory of its own. -/
def DecPost (r : ProgP × Int) (w : World) (e : Ending) (w' : World) : Prop := ∃ x : ProgT, e = .returned (.tuple #[x.val, .int .i64 r.2]) ∧ x.p = r.1 ∧ OwnG (fun k => w.heap.size ≤ k) w' x ∧ Below w.heap.size w w'
theorem progZ_own (F : Nat → Prop) (w : World) : OwnG F w progZ := ⟨⟨own_nil _ _ _ _ _, own_nil _ _ _ _ _, own_nil _ _ _ _ _⟩, own_nilT _ _, own_nilT _ _⟩
theorem Whole.set7 {w wf : World} {g : Nat} {cs : Array Value} {t : TypeId} (h : Whole w g cs t) (hs : cs.size = 7) (a b c d e f x : Value)
    (hf : wf = ((((((w.setCell ⟨g, 0, none⟩ a).setCell ⟨g, 1, none⟩ b).setCell ⟨g, 2, none⟩ c).setCell ⟨g, 3, none⟩ d).setCell ⟨g, 4, none⟩ e).setCell ⟨g, 5, none⟩ f).setCell ⟨g, 6, none⟩ x) :
    (wf.cell? ⟨g, 0, none⟩ = some a ∧ wf.cell? ⟨g, 1, none⟩ = some b ∧ wf.cell? ⟨g, 2, none⟩ = some c ∧ wf.cell? ⟨g, 3, none⟩ = some d ∧ wf.cell? ⟨g, 4, none⟩ = some e ∧ wf.cell? ⟨g, 5, none⟩ = some f ∧ wf.cell? ⟨g, 6, none⟩ = some x) ∧ Only (fun k => k = g) w wf := by
  have k := ((((((h.set_ 0 a).set_ 1 b).set_ 2 c).set_ 3 d).set_ 4 e).set_ 5 f).set_ 6 x
  have ho : Only (fun k => k = g) w (((((((w.setCell ⟨g, 0, none⟩ a).setCell ⟨g, 1, none⟩ b).setCell ⟨g, 2, none⟩ c).setCell ⟨g, 3, none⟩ d).setCell ⟨g, 4, none⟩ e).setCell ⟨g, 5, none⟩ f).setCell ⟨g, 6, none⟩ x) :=
    (((((((Only.refl (fun k => k = g) w).set_ (.inl rfl) 0 a).set_ (.inl rfl) 1 b).set_ (.inl rfl) 2 c).set_ (.inl rfl) 3 d).set_ (.inl rfl) 4 e).set_ (.inl rfl) 5 f).set_ (.inl rfl) 6 x
  rw [← hf] at k ho
  refine ⟨⟨?_, ?_, ?_, ?_, ?_, ?_, ?_⟩, ho⟩
  all_goals rw [k.cell]
  all_goals simp [hs]
set_option maxRecDepth 100000 in
set_option maxHeartbeats 8000000 in
theorem decode_any (A : Option Addr) (c n : Nat) (b : List Nat) (w : World) (hn : b.length = n) (hs : Slice A n c) (hA : Holds w A (bytesV b)) (hb : Bytes b) (hL : Lim w) (hnb : n ≤ 4611686018427387904) :
    Calls Tryz.prog 26 #[.slice A n c] w (DecPost (decodeS b) w) := by
  have hb0 : Below w.heap.size w (w.alloc (.cells #[.int .i64 0, .slice none 0 0, .slice none 0 0, .int .i64 0, .slice none 0 0, .slice none 0 0, .slice none 0 0] 46)) := (Below.refl _ _).alloc (Nat.le_refl _) _
  have hw0 := Whole.new w #[.int .i64 0, .slice none 0 0, .slice none 0 0, .int .i64 0, .slice none 0 0, .slice none 0 0, .slice none 0 0] 46
  obtain ⟨V0, hV0⟩ : ∃ V, V = (w.alloc (.cells #[.int .i64 0, .slice none 0 0, .slice none 0 0, .int .i64 0, .slice none 0 0, .slice none 0 0, .slice none 0 0] 46)) := ⟨_, rfl⟩
  have hz0 : V0.heap.size = w.heap.size + 1 := by rw [hV0]; simp
  rw [← hV0] at hb0 hw0
  have HV0 := Lib.hid hV0
  have HB0 := Lib.hid hb0
  have HW0 := Lib.hid hw0
  have HZ0 := Lib.hid hz0
  have HL := Lib.hid (show ∀ W, Below w.heap.size w W → Lim W from fun W h => hL.next h)
  have HNE := Lib.hid (show n ≤ 65536 → Calls Tryz.prog 63 #[.slice A n c] V0 (NewR b V0) from fun h => by
    have q := onew_any A c b V0 (by rw [hn]; exact hs) (hA.below hb0) (by omega) hb
    rw [hn] at q
    exact q)
  obtain ⟨res, hres⟩ : ∃ r, decodeS b = r := ⟨_, rfl⟩
  have HRES := Lib.hid hres
  have HN := Lib.hid hn
  rw [hres]
  clear hb0 hw0 hV0 hz0 hres hs hA hb hL hn
  by_cases hbig : 65536 < n
  · have hx : res = (progN, 6) := by rw [← HRES.out]; unfold decodeS; rw [HN.out, if_pos hbig]
    have HX := Lib.hid hx
    have hbi : (65536 : Int) < (n : Int) := by omega
    clear hx
    go_enter Tryz.func26, Tryz.ntmps26
    go_wp2_with fail
    rw [← HV0.out]
    have r0 : V0.cell? ⟨w.heap.size, 0, none⟩ = some (.int .i64 0) := HW0.out.cell 0
    have r1 : V0.cell? ⟨w.heap.size, 1, none⟩ = some (.slice none 0 0) := HW0.out.cell 1
    have r2 : V0.cell? ⟨w.heap.size, 2, none⟩ = some (.slice none 0 0) := HW0.out.cell 2
    have r3 : V0.cell? ⟨w.heap.size, 3, none⟩ = some (.int .i64 0) := HW0.out.cell 3
    have r4 : V0.cell? ⟨w.heap.size, 4, none⟩ = some (.slice none 0 0) := HW0.out.cell 4
    have r5 : V0.cell? ⟨w.heap.size, 5, none⟩ = some (.slice none 0 0) := HW0.out.cell 5
    have r6 : V0.cell? ⟨w.heap.size, 6, none⟩ = some (.slice none 0 0) := HW0.out.cell 6
    refine bodyPost_ret (by simp [results, Tryz.results26, go_sem, r0, r1, r2, r3, r4, r5, r6]; try rfl) rfl ?_
    rw [HX.out]
    exact ⟨progZ, rfl, rfl, progZ_own _ _, HB0.out⟩
  have hbi : ¬ (65536 : Int) < (n : Int) := by omega
  have HC := Lib.hid (HNE.out (by omega))
  clear HNE
  go_enter Tryz.func26, Tryz.ntmps26
  go_wp2_with fail
  rw [← HV0.out]
  refine (HC.out).mono ?_
  rintro e w1 ⟨g, rfl, hg, hrd, hb1⟩
  have HG := Lib.hid hg
  have hgl := hrd.lt
  have hb3 : Below w1.heap.size w1 (w1.alloc (.cells #[.pointer (some ⟨g, 0, none⟩)] 105)) := (Below.refl _ _).alloc (Nat.le_refl _) _
  have hbx := holds_at w1 #[.pointer (some ⟨g, 0, none⟩)] 105 _ rfl
  have HP := Lib.hid (rprog_any _ g _ _ (hrd.below hb3))
  have HW1 := Lib.hid ((HW0.out.below hb1 (by have := HZ0.out; omega)).below hb3 (by have := hb1.size; have := HZ0.out; omega))
  have HBX := Lib.hid hbx
  have HGL := Lib.hid hgl
  have HSZ1 := Lib.hid hb1.size
  have HB1 := Lib.hid ((HB0.out.trans (hb1.mono HB0.out.size)).trans (hb3.mono (Nat.le_trans HB0.out.size hb1.size)))
  clear hg hrd hb1 hgl hb3 hbx HC
  obtain ⟨ps, hps⟩ : ∃ r, progS (b, 0) = r := ⟨_, rfl⟩
  have hpb := prog_B (b, 0)
  have hdec : res = if ps.2.2 ≠ 0 then (progN, (ps.2.2 : Int)) else if 0 < ps.2.1.length then (progN, 3) else if progE ps.1 ≠ 0 then (progN, progE ps.1) else (ps.1, 0) := by
    rw [← HRES.out]
    unfold decodeS
    rw [HN.out, if_neg (by omega), hps]
  rw [hps] at HP hpb
  have HD := Lib.hid hdec
  have HPB := Lib.hid hpb
  clear hps hpb hdec
  obtain ⟨pp, sl, sf⟩ := ps
  simp only at HP HD HPB
  go_wp2_with fail
  refine (HP.out).mono ?_
  rintro e w2 ⟨x, rfl, hrep, hown, hrd, ht⟩
  simp only [ProgT.val, entsV, rowV]
  have hz3 : (w1.alloc (.cells #[.pointer (some ⟨g, 0, none⟩)] 105)).heap.size = w1.heap.size + 1 := World.size_alloc ..
  have hb4 : Below w2.heap.size w2 (w2.alloc (.cells #[.int .i64 x.book.vars, .slice x.book.ords.1 x.book.ords.2.2.length x.book.ords.2.1, .slice x.book.ents.1 x.book.ents.2.2.length x.book.ents.2.1, .int .i64 x.book.nat, .slice x.book.prims.1 x.book.prims.2.2.length x.book.prims.2.1, .slice x.main.1 x.main.2.2.length x.main.2.1, .slice x.typ.1 x.typ.2.2.length x.typ.2.1] 46)) := (Below.refl _ _).alloc (Nat.le_refl _) _
  have hsz2 := ht.size
  have HW4 := Lib.hid ((HW1.out.only ht.only (by have := HG.out; have := HZ0.out; omega)).below hb4 (by have := HSZ1.out; have := HZ0.out; omega))
  have hbx4 := ((HBX.out.only ht.only fun bb o e hn => by cases e; have := HGL.out; omega).below hb4).cell (j := 0) rfl
  have hp4 := holds_at w2 #[.int .i64 x.book.vars, .slice x.book.ords.1 x.book.ords.2.2.length x.book.ords.2.1, .slice x.book.ents.1 x.book.ents.2.2.length x.book.ents.2.1, .int .i64 x.book.nat, .slice x.book.prims.1 x.book.prims.2.2.length x.book.prims.2.1, .slice x.main.1 x.main.2.2.length x.main.2.1, .slice x.typ.1 x.typ.2.2.length x.typ.2.1] 46 _ rfl
  have HR4 := Lib.hid (hrd.below hb4)
  have HO4 := Lib.hid (OwnG.only hown (Only.of_below (F := fun _ => False) hb4) fun _ _ e => e)
  have HB4 := Lib.hid ((ht.below HB1.out (by have := HSZ1.out; have := HZ0.out; omega) (by have := HG.out; have := HZ0.out; omega)).trans (hb4.mono (by have := HSZ1.out; have := HZ0.out; omega)))
  have HREP := Lib.hid hrep
  have HS2 := Lib.hid (show w.heap.size < w1.heap.size ∧ w1.heap.size < w2.heap.size from by have := HSZ1.out; have := HZ0.out; omega)
  rw [Nat.zero_add] at hbx4
  obtain ⟨V4, hV4⟩ : ∃ V, V = w2.alloc (.cells #[.int .i64 x.book.vars, .slice x.book.ords.1 x.book.ords.2.2.length x.book.ords.2.1, .slice x.book.ents.1 x.book.ents.2.2.length x.book.ents.2.1, .int .i64 x.book.nat, .slice x.book.prims.1 x.book.prims.2.2.length x.book.prims.2.1, .slice x.main.1 x.main.2.2.length x.main.2.1, .slice x.typ.1 x.typ.2.2.length x.typ.2.1] 46) := ⟨_, rfl⟩
  rw [← hV4] at hbx4 hp4 HW4 HR4 HO4 HB4
  have HV4 := Lib.hid hV4
  have HER := Lib.hid (oerr_any _ _ _ _ HR4.out)
  have HLE := Lib.hid (oleft_any _ _ _ _ HR4.out)
  simp only at HER HLE
  have HX4 := Lib.hid hbx4
  have HP4 := Lib.hid hp4
  clear hrep hown hrd ht hz3 hb4 hsz2 hbx4 hp4 hV4 HP
  have c4 := HX4.out
  have c4s := HX4.out
  rw [HV4.out] at c4s
  by_cases h1 : sf = 0
  · subst h1
    by_cases h2 : 0 < sl.length
    · have HX := Lib.hid (show res = (progN, 3) from by rw [HD.out, if_neg (by simp), if_pos h2])
      have h2b : (0 : Int) < (sl.length : Int) := by omega
      have HWW := Lib.hid (HW4.out)
      have k0 : V4.cell? ⟨w.heap.size, 0, none⟩ = some (.int .i64 0) := HWW.out.cell 0
      have l0 : V4.frozen? ⟨w.heap.size, 0, none⟩ = false := HWW.out.frozen 0
      have k1 : V4.cell? ⟨w.heap.size, 1, none⟩ = some (.slice none 0 0) := HWW.out.cell 1
      have l1 : V4.frozen? ⟨w.heap.size, 1, none⟩ = false := HWW.out.frozen 1
      have k2 : V4.cell? ⟨w.heap.size, 2, none⟩ = some (.slice none 0 0) := HWW.out.cell 2
      have l2 : V4.frozen? ⟨w.heap.size, 2, none⟩ = false := HWW.out.frozen 2
      have k3 : V4.cell? ⟨w.heap.size, 3, none⟩ = some (.int .i64 0) := HWW.out.cell 3
      have l3 : V4.frozen? ⟨w.heap.size, 3, none⟩ = false := HWW.out.frozen 3
      have k4 : V4.cell? ⟨w.heap.size, 4, none⟩ = some (.slice none 0 0) := HWW.out.cell 4
      have l4 : V4.frozen? ⟨w.heap.size, 4, none⟩ = false := HWW.out.frozen 4
      have k5 : V4.cell? ⟨w.heap.size, 5, none⟩ = some (.slice none 0 0) := HWW.out.cell 5
      have l5 : V4.frozen? ⟨w.heap.size, 5, none⟩ = false := HWW.out.frozen 5
      have k6 : V4.cell? ⟨w.heap.size, 6, none⟩ = some (.slice none 0 0) := HWW.out.cell 6
      have l6 : V4.frozen? ⟨w.heap.size, 6, none⟩ = false := HWW.out.frozen 6
      obtain ⟨wf, hwf⟩ : ∃ wf, wf = (((((((V4.setCell ⟨w.heap.size, 0, none⟩ (.int .i64 0)).setCell ⟨w.heap.size, 1, none⟩ (.slice none 0 0)).setCell ⟨w.heap.size, 2, none⟩ (.slice none 0 0)).setCell ⟨w.heap.size, 3, none⟩ (.int .i64 0)).setCell ⟨w.heap.size, 4, none⟩ (.slice none 0 0)).setCell ⟨w.heap.size, 5, none⟩ (.slice none 0 0)).setCell ⟨w.heap.size, 6, none⟩ (.slice none 0 0)) := ⟨_, rfl⟩
      have HSF := Lib.hid (HWW.out.set7 rfl (.int .i64 0) (.slice none 0 0) (.slice none 0 0) (.int .i64 0) (.slice none 0 0) (.slice none 0 0) (.slice none 0 0) hwf)
      obtain ⟨r0, r1, r2, r3, r4, r5, r6⟩ := HSF.out.1
      have HWF := Lib.hid hwf
      clear hwf
      go_wp2_with fail
      rw [← HV4.out]
      refine (HER.out).mono ?_
      rintro e w5 ⟨rfl, rfl⟩
      go_wp2_with fail
      refine (HLE.out).mono ?_
      rintro e w5 ⟨rfl, rfl⟩
      go_wp2_with fail
      rw [← HWF.out]
      refine bodyPost_ret (by simp [results, Tryz.results26, go_sem, r0, r1, r2, r3, r4, r5, r6]; try rfl) rfl ?_
      rw [HX.out]
      exact ⟨progZ, rfl, rfl, progZ_own _ _, HB4.out.trans (HSF.out.2.below HB4.out.size fun k hk e => by omega)⟩

    have h2b : ¬ (0 : Int) < (sl.length : Int) := by omega
    have HPF := Lib.hid (progFault_any x _ (OwnG.ok HO4.out (by rw [HREP.out]; exact HPB.out)) (HL.out _ HB4.out))
    rw [HREP.out] at HPF
    simp only [ProgT.val, entsV, rowV] at HPF
    obtain ⟨r, hr⟩ : ∃ r, progE pp = r := ⟨_, rfl⟩
    rw [hr] at HPF
    have HRR := Lib.hid (show res = if r ≠ 0 then (progN, r) else (pp, 0) from by rw [HD.out, if_neg (by simp), if_neg h2, hr])
    clear hr
    have p0 := HP4.out.cell (j := 0) rfl
    have p1 := HP4.out.cell (j := 1) rfl
    have p2 := HP4.out.cell (j := 2) rfl
    have p3 := HP4.out.cell (j := 3) rfl
    have p4 := HP4.out.cell (j := 4) rfl
    have p5 := HP4.out.cell (j := 5) rfl
    have p6 := HP4.out.cell (j := 6) rfl
    simp only [Nat.zero_add] at p0 p1 p2 p3 p4 p5 p6
    go_wp2_with fail
    rw [← HV4.out]
    refine (HER.out).mono ?_
    rintro e w5 ⟨rfl, rfl⟩
    go_wp2_with fail
    refine (HLE.out).mono ?_
    rintro e w5 ⟨rfl, rfl⟩
    go_wp2_with fail
    refine (HPF.out).mono ?_
    rintro e w6 ⟨rfl, hb6⟩
    have HB6 := Lib.hid hb6
    have HP6 := Lib.hid (HP4.out.below hb6)
    have HO6 := Lib.hid (OwnG.only HO4.out (Only.of_below (F := fun _ => False) hb6) fun _ _ e => e)
    have HB7 := Lib.hid (below_step HB4.out hb6)
    have HW6 := Lib.hid (HW4.out.below hb6 HW4.out.lt)
    clear p0 p1 p2 p3 p4 p5 p6 c4 hb6
    have p0 := HP6.out.cell (j := 0) rfl
    have p1 := HP6.out.cell (j := 1) rfl
    have p2 := HP6.out.cell (j := 2) rfl
    have p3 := HP6.out.cell (j := 3) rfl
    have p4 := HP6.out.cell (j := 4) rfl
    have p5 := HP6.out.cell (j := 5) rfl
    have p6 := HP6.out.cell (j := 6) rfl
    simp only [Nat.zero_add] at p0 p1 p2 p3 p4 p5 p6
    have HWW := Lib.hid (HW6.out)
    have k0 : w6.cell? ⟨w.heap.size, 0, none⟩ = some (.int .i64 0) := HWW.out.cell 0
    have l0 : w6.frozen? ⟨w.heap.size, 0, none⟩ = false := HWW.out.frozen 0
    have k1 : w6.cell? ⟨w.heap.size, 1, none⟩ = some (.slice none 0 0) := HWW.out.cell 1
    have l1 : w6.frozen? ⟨w.heap.size, 1, none⟩ = false := HWW.out.frozen 1
    have k2 : w6.cell? ⟨w.heap.size, 2, none⟩ = some (.slice none 0 0) := HWW.out.cell 2
    have l2 : w6.frozen? ⟨w.heap.size, 2, none⟩ = false := HWW.out.frozen 2
    have k3 : w6.cell? ⟨w.heap.size, 3, none⟩ = some (.int .i64 0) := HWW.out.cell 3
    have l3 : w6.frozen? ⟨w.heap.size, 3, none⟩ = false := HWW.out.frozen 3
    have k4 : w6.cell? ⟨w.heap.size, 4, none⟩ = some (.slice none 0 0) := HWW.out.cell 4
    have l4 : w6.frozen? ⟨w.heap.size, 4, none⟩ = false := HWW.out.frozen 4
    have k5 : w6.cell? ⟨w.heap.size, 5, none⟩ = some (.slice none 0 0) := HWW.out.cell 5
    have l5 : w6.frozen? ⟨w.heap.size, 5, none⟩ = false := HWW.out.frozen 5
    have k6 : w6.cell? ⟨w.heap.size, 6, none⟩ = some (.slice none 0 0) := HWW.out.cell 6
    have l6 : w6.frozen? ⟨w.heap.size, 6, none⟩ = false := HWW.out.frozen 6

    by_cases h3 : r = 0
    · have HX := Lib.hid (show res = (pp, 0) from by rw [HRR.out, if_neg (fun h => h h3)])
      subst h3
      obtain ⟨wf, hwf⟩ : ∃ wf, wf = (((((((w6.setCell ⟨w.heap.size, 0, none⟩ (.int .i64 x.book.vars)).setCell ⟨w.heap.size, 1, none⟩ (.slice x.book.ords.1 x.book.ords.2.2.length x.book.ords.2.1)).setCell ⟨w.heap.size, 2, none⟩ (.slice x.book.ents.1 x.book.ents.2.2.length x.book.ents.2.1)).setCell ⟨w.heap.size, 3, none⟩ (.int .i64 x.book.nat)).setCell ⟨w.heap.size, 4, none⟩ (.slice x.book.prims.1 x.book.prims.2.2.length x.book.prims.2.1)).setCell ⟨w.heap.size, 5, none⟩ (.slice x.main.1 x.main.2.2.length x.main.2.1)).setCell ⟨w.heap.size, 6, none⟩ (.slice x.typ.1 x.typ.2.2.length x.typ.2.1)) := ⟨_, rfl⟩
      have HSF := Lib.hid (HWW.out.set7 rfl (.int .i64 x.book.vars) (.slice x.book.ords.1 x.book.ords.2.2.length x.book.ords.2.1) (.slice x.book.ents.1 x.book.ents.2.2.length x.book.ents.2.1) (.int .i64 x.book.nat) (.slice x.book.prims.1 x.book.prims.2.2.length x.book.prims.2.1) (.slice x.main.1 x.main.2.2.length x.main.2.1) (.slice x.typ.1 x.typ.2.2.length x.typ.2.1) hwf)
      obtain ⟨r0, r1, r2, r3, r4, r5, r6⟩ := HSF.out.1
      have HWF := Lib.hid hwf
      clear hwf
      go_wp2_with fail
      rw [← HWF.out]
      refine bodyPost_ret (by simp [results, Tryz.results26, go_sem, r0, r1, r2, r3, r4, r5, r6]; try rfl) rfl ?_
      rw [HX.out]
      exact ⟨x, rfl, HREP.out, OwnG.fit (OwnG.only HO6.out HSF.out.2 fun k hk e => by rw [World.size_alloc] at hk; have := HS2.out; omega) fun k hk _ => by rw [World.size_alloc] at hk; have := HS2.out; omega, HB7.out.trans (HSF.out.2.below HB7.out.size fun k hk e => by omega)⟩

    · have HX := Lib.hid (show res = (progN, r) from by rw [HRR.out, if_pos h3])
      have h3b : (r != 0) = true := by simpa using h3
      obtain ⟨wf, hwf⟩ : ∃ wf, wf = (((((((w6.setCell ⟨w.heap.size, 0, none⟩ (.int .i64 0)).setCell ⟨w.heap.size, 1, none⟩ (.slice none 0 0)).setCell ⟨w.heap.size, 2, none⟩ (.slice none 0 0)).setCell ⟨w.heap.size, 3, none⟩ (.int .i64 0)).setCell ⟨w.heap.size, 4, none⟩ (.slice none 0 0)).setCell ⟨w.heap.size, 5, none⟩ (.slice none 0 0)).setCell ⟨w.heap.size, 6, none⟩ (.slice none 0 0)) := ⟨_, rfl⟩
      have HSF := Lib.hid (HWW.out.set7 rfl (.int .i64 0) (.slice none 0 0) (.slice none 0 0) (.int .i64 0) (.slice none 0 0) (.slice none 0 0) (.slice none 0 0) hwf)
      obtain ⟨r0, r1, r2, r3, r4, r5, r6⟩ := HSF.out.1
      have HWF := Lib.hid hwf
      clear hwf
      go_wp2_with fail
      rw [← HWF.out]
      refine bodyPost_ret (by simp [results, Tryz.results26, go_sem, r0, r1, r2, r3, r4, r5, r6]; try rfl) rfl ?_
      rw [HX.out]
      exact ⟨progZ, rfl, rfl, progZ_own _ _, HB7.out.trans (HSF.out.2.below HB7.out.size fun k hk e => by omega)⟩

  · have HX := Lib.hid (show res = (progN, (sf : Int)) from by rw [HD.out, if_pos h1])
    have h1b : ((sf : Int) != 0) = true := by simp; omega
    have HWW := Lib.hid (HW4.out)
    have k0 : V4.cell? ⟨w.heap.size, 0, none⟩ = some (.int .i64 0) := HWW.out.cell 0
    have l0 : V4.frozen? ⟨w.heap.size, 0, none⟩ = false := HWW.out.frozen 0
    have k1 : V4.cell? ⟨w.heap.size, 1, none⟩ = some (.slice none 0 0) := HWW.out.cell 1
    have l1 : V4.frozen? ⟨w.heap.size, 1, none⟩ = false := HWW.out.frozen 1
    have k2 : V4.cell? ⟨w.heap.size, 2, none⟩ = some (.slice none 0 0) := HWW.out.cell 2
    have l2 : V4.frozen? ⟨w.heap.size, 2, none⟩ = false := HWW.out.frozen 2
    have k3 : V4.cell? ⟨w.heap.size, 3, none⟩ = some (.int .i64 0) := HWW.out.cell 3
    have l3 : V4.frozen? ⟨w.heap.size, 3, none⟩ = false := HWW.out.frozen 3
    have k4 : V4.cell? ⟨w.heap.size, 4, none⟩ = some (.slice none 0 0) := HWW.out.cell 4
    have l4 : V4.frozen? ⟨w.heap.size, 4, none⟩ = false := HWW.out.frozen 4
    have k5 : V4.cell? ⟨w.heap.size, 5, none⟩ = some (.slice none 0 0) := HWW.out.cell 5
    have l5 : V4.frozen? ⟨w.heap.size, 5, none⟩ = false := HWW.out.frozen 5
    have k6 : V4.cell? ⟨w.heap.size, 6, none⟩ = some (.slice none 0 0) := HWW.out.cell 6
    have l6 : V4.frozen? ⟨w.heap.size, 6, none⟩ = false := HWW.out.frozen 6
    obtain ⟨wf, hwf⟩ : ∃ wf, wf = (((((((V4.setCell ⟨w.heap.size, 0, none⟩ (.int .i64 0)).setCell ⟨w.heap.size, 1, none⟩ (.slice none 0 0)).setCell ⟨w.heap.size, 2, none⟩ (.slice none 0 0)).setCell ⟨w.heap.size, 3, none⟩ (.int .i64 0)).setCell ⟨w.heap.size, 4, none⟩ (.slice none 0 0)).setCell ⟨w.heap.size, 5, none⟩ (.slice none 0 0)).setCell ⟨w.heap.size, 6, none⟩ (.slice none 0 0)) := ⟨_, rfl⟩
    have HSF := Lib.hid (HWW.out.set7 rfl (.int .i64 0) (.slice none 0 0) (.slice none 0 0) (.int .i64 0) (.slice none 0 0) (.slice none 0 0) (.slice none 0 0) hwf)
    obtain ⟨r0, r1, r2, r3, r4, r5, r6⟩ := HSF.out.1
    have HWF := Lib.hid hwf
    clear hwf
    go_wp2_with fail
    rw [← HV4.out]
    refine (HER.out).mono ?_
    rintro e w5 ⟨rfl, rfl⟩
    go_wp2_with fail
    refine (HER.out).mono ?_
    rintro e w5 ⟨rfl, rfl⟩
    go_wp2_with fail
    rw [← HWF.out]
    refine bodyPost_ret (by simp [results, Tryz.results26, go_sem, r0, r1, r2, r3, r4, r5, r6]; try rfl) rfl ?_
    rw [HX.out]
    exact ⟨progZ, rfl, rfl, progZ_own _ _, HB4.out.trans (HSF.out.2.below HB4.out.size fun k hk e => by omega)⟩

end Go.Proofs.YtfeodppdmbideaaGreatDoor
namespace Go.Proofs.YtfeodppdmbideaaGreatDoor
open Go.RowKit

/-- What the writer puts behind what there is: a row is left out where there are too many bytes already. -/
def encR (bs : List Nat) (t : List Node3) : List Nat := if 65536 < bs.length then bs else bs ++ lebT t
def encAll {α : Type} (f : List Nat → α → List Nat) (bs : List Nat) (l : List α) : List Nat := l.foldl f (bs ++ lebs [(l.length : Int)])
def encO (bs : List Nat) (x : Node3) : List Nat := bs ++ lebs [x.1] ++ leb (fold x.2.1) ++ lebs [x.2.2]
def encC (bs : List Nat) (c : CtorP) : List Nat := encAll encR (encAll encR bs c.args) c.out
def encE (bs : List Nat) (x : EntP) : List Nat :=
  if x.kind = 2 then encR (encR (bs ++ lebs [x.kind]) x.typ) x.body
  else encAll encC (encAll encR (encAll encR (encR (bs ++ lebs [x.kind]) x.sort) x.pars) x.inds) x.ctors
def encP (bs : List Nat) (x : Int × Int) : List Nat := bs ++ lebs [x.1, x.2]
def encB (bs : List Nat) (b : BookP) : List Nat := encAll encP (encAll encE (encAll encO (bs ++ lebs [b.vars]) b.ords) b.ents ++ lebs [b.nat + 1]) b.prims
def encG (p : ProgP) : List Nat := encR (encR (encB [] p.book) p.main) p.typ

/-- Not more bytes than so many numbers may have, and a row. -/
def Cap (m : Nat) (bs : List Nat) : Prop := bs.length ≤ 200000 + 10 * m
theorem Cap.mono {m m' : Nat} {bs : List Nat} (h : Cap m bs) (hm : m ≤ m') : Cap m' bs := by unfold Cap at *; omega
theorem Cap.num {m : Nat} {bs : List Nat} (h : Cap m bs) {l : List Int} (hl : Wide l) : Cap (m + l.length) (bs ++ lebs l) := by
  unfold Cap at *
  rw [List.length_append]
  have := lebs_len hl
  omega
theorem lebT_len {t : List Node3} (h : WideT t) (h4 : t.length ≤ 4096) : (lebT t).length ≤ 122890 := by
  unfold lebT
  rw [List.length_append]
  have h1 := leb_ten (n := t.length) (by omega)
  have h2 := lebs_len (wide_flat h)
  rw [flatT_len] at h2
  omega
theorem Cap.row {m : Nat} {bs : List Nat} (h : Cap m bs) {t : List Node3} (ht : WideT t) (h4 : t.length ≤ 4096) : Cap m (encR bs t) := by
  unfold encR
  split
  · exact h
  · unfold Cap
    rw [List.length_append]
    have := lebT_len ht h4
    omega
theorem Cap.all {α : Type} {f : List Nat → α → List Nat} {k : Nat} {l : List α} (hf : ∀ x ∈ l, ∀ m bs, Cap m bs → Cap (m + k) (f bs x)) {m : Nat} {bs : List Nat} (hl : l.length ≤ 4611686018427387904) (h : Cap m bs) : Cap (m + 1 + k * l.length) (encAll f bs l) := by
  unfold encAll
  have h0 : Cap (m + 1) (bs ++ lebs [(l.length : Int)]) := h.num (l := [(l.length : Int)]) fun x hx => by
    simp only [List.mem_singleton] at hx
    subst hx
    omega
  generalize bs ++ lebs [(l.length : Int)] = b0 at *
  generalize m + 1 = m0 at *
  clear h hl
  induction l generalizing b0 m0 with
  | nil => simpa using h0
  | cons x l ih =>
    have h1 := hf x List.mem_cons_self _ _ h0
    have h2 := ih (fun y hy => hf y (List.mem_cons_of_mem _ hy)) _ _ h1
    rw [List.foldl_cons, List.length_cons]
    exact h2.mono (by rw [Nat.mul_add]; omega)
theorem encAll_take {α : Type} {f : List Nat → α → List Nat} {l : List α} {b0 : List Nat} {k : Nat} (h : k < l.length) : (l.take (k + 1)).foldl f b0 = f ((l.take k).foldl f b0) l[k] := by
  rw [List.take_succ_eq_append_getElem h, List.foldl_append]
  rfl
end Go.Proofs.YtfeodppdmbideaaGreatDoor
