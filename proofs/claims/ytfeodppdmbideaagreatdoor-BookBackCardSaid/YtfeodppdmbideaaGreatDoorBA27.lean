/- The way to the laws of books: BProgW to BNums. -/
import Derived.Test.YtfeodppdmbideaaGreatDoorBA14
import Derived.Test.YtfeodppdmbideaaGreatDoorBA15
import Derived.Test.YtfeodppdmbideaaGreatDoorBA24
import Derived.Test.YtfeodppdmbideaaGreatDoorBA26
import Derived.Test.YtfeodppdmbideaaGreatDoorBA7
import Derived.Test.YtfeodppdmbideaaGreatDoorBA9
namespace Go.Proofs.YtfeodppdmbideaaGreatDoor
open Go.RowKit

theorem row_right {th : Node3 → Bool} {b : Int} {t : List Node3} (h : rowE th b t = 0) : RowW t := by
  obtain ⟨h1, -, -⟩ := rowE_zero h
  obtain ⟨h2, h3⟩ := ann_of h1
  refine ⟨fun x hx => ?_, h3⟩
  rw [h2.row] at hx
  obtain ⟨y, hy, rfl⟩ := List.mem_map.1 hx
  have h4 := h2.ok y hy
  have h5 := holds_op h4
  have h6 := holds_a h4
  have h7 := holds_b h4
  exact ⟨by omega, by omega, by omega, by omega⟩
theorem row_nil : RowW [] := ⟨fun _ hx => (by cases hx), by simp⟩
theorem rows_right {l : List RowT} (hl : l.length ≤ 16) (h : ∀ t ∈ rowsP (none, 0, l), RowW t) : RowsW l := ⟨hl, fun _ hx => h _ (List.mem_map_of_mem hx)⟩
theorem ent_right {v : Int} {ents : List EntP} {i : Nat} {x : EntT} (h : entE v ents i x.p = 0) : EntW x := by
  have hk : x.p.kind = x.kind := rfl
  have nilT : ∀ {l : List Node3}, l = [] → RowW l := fun h => by rw [h]; exact row_nil
  have nilR : ∀ {l : List RowT}, (l.map fun y => y.2.2) = [] → RowsW l := fun h => by
    rw [List.map_eq_nil_iff] at h
    rw [h]
    exact ⟨by simp, fun _ hx => (by cases hx)⟩
  unfold entE at h
  split at h
  · rename_i h0
    obtain ⟨⟨h1, h2⟩, ⟨h3, h4, h5⟩, h6, -, h7, h8⟩ := famE_zero h
    have hp : x.p.pars.length = x.pars.2.2.length := List.length_map ..
    have hi : x.p.inds.length = x.inds.2.2.length := List.length_map ..
    have hc : x.p.ctors.length = x.ctors.2.2.length := List.length_map ..
    have hall : ∀ t ∈ x.p.pars ++ x.p.inds, RowW t := fun t ht => by
      obtain ⟨j, hj, rfl⟩ := List.getElem_of_mem ht
      exact row_right (h7 j hj)
    refine ⟨.inl (hk ▸ h0), row_right h6, rows_right (by omega) fun t ht => hall t (List.mem_append_left _ ht), rows_right (by omega) fun t ht => hall t (List.mem_append_right _ ht), by omega, fun c hcm => ?_, nilT h1, nilT h2⟩
    obtain ⟨k1, k2, k3, k4⟩ := ctorE_zero (h8 c.p (List.mem_map_of_mem hcm))
    have ha : c.p.args.length = c.args.2.2.length := List.length_map ..
    have ho : c.p.out.length = c.out.2.2.length := List.length_map ..
    refine ⟨rows_right (by omega) fun t ht => ?_, rows_right (by omega) fun t ht => row_right (k4 t ht)⟩
    obtain ⟨j, hj, rfl⟩ := List.getElem_of_mem ht
    exact row_right (k3 j hj)
  · split at h
    · rename_i h0
      obtain ⟨⟨h1, h2, h3, h4⟩, h5, h6⟩ := defE_zero h
      have hc : x.ctors.2.2 = [] := List.map_eq_nil_iff.1 h4
      refine ⟨.inr (hk ▸ h0), nilT h1, nilR h2, nilR h3, by rw [hc]; simp, fun c hcm => ?_, row_right h5, row_right h6⟩
      rw [hc] at hcm
      cases hcm
    · cases h
/-- How many of the numbers of primitives are not yet taken. -/
def freeIds (l : List (Int × Int)) : Nat := (if l.any (fun q => decide (q.2 = 1)) = true then 0 else 1) + (if l.any (fun q => decide (q.2 = 2)) = true then 0 else 1) + (if l.any (fun q => decide (q.2 = 3)) = true then 0 else 1)
theorem prims_few {ents : List EntP} : ∀ (l pre : List (Int × Int)), primsA ents pre l = true → l.length ≤ freeIds pre ∧ ∀ p ∈ l, (0 ≤ p.1 ∧ p.1 < ents.length) ∧ 1 ≤ p.2 ∧ p.2 ≤ 3
  | [], pre, _ => ⟨by simp, fun p hp => by cases hp⟩
  | p :: l, pre, h => by
    unfold primsA at h
    simp only [Bool.and_eq_true, Bool.not_eq_true', primB, decide_eq_true_eq] at h
    obtain ⟨⟨⟨h1, h2⟩, h3⟩, h4⟩ := h
    obtain ⟨h5, h6⟩ := prims_few l _ h4
    have h7 := kind_lt h1
    have hno : ∀ q ∈ pre, q.2 ≠ p.2 := fun q hq e => by
      have := List.any_eq_false.1 h3 q hq
      simp [clashB, e] at this
    have hk : ∀ k : Int, p.2 = k → pre.any (fun q => decide (q.2 = k)) = false := fun k e => List.any_eq_false.2 fun q hq hd => hno q hq (by rw [decide_eq_true_eq] at hd; rw [hd, e])
    refine ⟨?_, fun q hq => ?_⟩
    · have hk1 := hk 1
      have hk2 := hk 2
      have hk3 := hk 3
      unfold freeIds at h5 ⊢
      simp only [List.any_append, List.any_cons, List.any_nil, Bool.or_false, List.length_cons] at h5 ⊢
      clear hk h4 h6 h3 h1 hno h7
      generalize pre.any (fun q => decide (q.2 = 1)) = a at *
      generalize pre.any (fun q => decide (q.2 = 2)) = b at *
      generalize pre.any (fun q => decide (q.2 = 3)) = c at *
      have h8 : p.2 = 1 ∨ p.2 = 2 ∨ p.2 = 3 := by omega
      rcases h8 with e | e | e <;> rw [e] at h5 hk1 hk2 hk3 <;> cases a <;> cases b <;> cases c <;> simp at h5 hk1 hk2 hk3 ⊢ <;> omega
    · rcases List.mem_cons.1 hq with rfl | hq
      · exact ⟨h7, h2⟩
      · exact h6 q hq
theorem book_right {b : BookT} (hw : WideBook b) (h : rightE b.p = 0) : BookW b := by
  unfold rightE at h
  split at h
  · rename_i h1; exact absurd h h1
  rename_i h1
  split at h
  · cases h
  rename_i h2
  split at h
  · rename_i h3; exact absurd h h3
  rename_i h3
  split at h
  · rename_i h4
    rw [Bool.and_eq_true] at h4
    obtain ⟨h4, h5⟩ := h4
    unfold primsB at h5
    rw [Bool.and_eq_true] at h5
    obtain ⟨h6, h7⟩ := prims_few _ _ h5.1
    have he : b.p.ents.length = b.ents.2.2.length := List.length_map ..
    have hf : faultS b.vars b.ords.2.2 = 0 := by
      by_cases hf : faultS b.vars b.ords.2.2 = 0
      · exact hf
      · exact absurd (err_fault hf ▸ Classical.not_not.1 h1 : faultS b.vars b.ords.2.2 = 0) hf
    unfold faultS at hf
    split at hf
    · rename_i hwi
      split at hf
      · cases hf
      rename_i hlen
      split at hf
      · rename_i hall
        have hv : 0 ≤ b.vars ∧ b.vars ≤ 16 := by simpa [withinB] using hwi
        refine ⟨⟨hv.1, by omega⟩, fun x hx => ?_, by omega, fun x hx => ?_, by omega, ?_, fun x hx => ?_, ?_⟩
        · have := List.all_eq_true.1 hall x hx
          simp only [okO, withinB, Bool.and_eq_true, decide_eq_true_eq] at this
          have h9 := hw.ords x hx
          unfold OrdW
          omega
        · obtain ⟨j, hj, rfl⟩ := List.getElem_of_mem hx
          have h8 := firstE_zero (f := fun i x => entE b.p.vars b.p.ents i x) (l := b.p.ents) (i := 0) (Classical.not_not.1 h3) j (by omega)
          have h9 : b.p.ents[j]'(by omega) = b.ents.2.2[j].p := by simp only [BookT.p, List.getElem_map]
          simp only [h9] at h8
          exact ent_right h8
        · unfold natB at h4
          rw [Bool.or_eq_true, decide_eq_true_eq, Bool.and_eq_true] at h4
          have hn : b.p.nat = b.nat := rfl
          unfold Small
          rcases h4 with e | ⟨e, -⟩
          · rw [hn] at e; omega
          · have := kind_lt e
            rw [hn] at this; omega
        · obtain ⟨k1, k2⟩ := h7 x hx
          unfold Small
          omega
        · have : b.p.prims = b.prims.2.2 := rfl
          rw [this] at h6
          have h10 : freeIds [] ≤ 3 := by decide
          omega
      · cases hf
    · cases hf
  · cases h
theorem prog_right {p : ProgT} (hw : WideBook p.book) (h : progE p.p = 0) : ProgW p := by
  unfold progE at h
  split at h
  · rename_i h1; exact absurd h h1
  rename_i h1
  have h2 := firstE_all h
  exact ⟨book_right hw (Classical.not_not.1 h1), row_right (h2 _ (by simp [ProgT.p])), row_right (h2 _ (by simp [ProgT.p]))⟩
end Go.Proofs.YtfeodppdmbideaaGreatDoor
namespace Go.Proofs.YtfeodppdmbideaaGreatDoor
open Go.RowKit

/-- A program's bytes, or an error. -/
def encodeS (p : ProgP) : List Nat × Int := if progE p ≠ 0 then ([], progE p) else if 65536 < (encG p).length then ([], 6) else (encG p, 0)
inductive BytesAns (r : List Nat × Int) (w : World) : Ending → World → Prop
  | none (w' : World) (x : Int) : r = ([], x) → x ≠ 0 → Below w.heap.size w w' → BytesAns r w (.returned (.tuple #[.slice none 0 0, .int .i64 x])) w'
  | some (w' : World) (A : Option Addr) (n c : Nat) : r.1.length = n → r.2 = 0 → w'.ownsRow w.heap.size 5 1 (.slice A n c) n (bytesV r.1) → Slice A n c → Below w.heap.size w w' → BytesAns r w (.returned (.tuple #[.slice A n c, .int .i64 0])) w'
theorem own_rebase {w : World} {B e sz n : Nat} {v : Value} {xs : List Value} (h : w.ownsRow 0 e sz v n xs) (hB : ∀ k, v.ownBlock = some k → B ≤ k) : w.ownsRow B e sz v n xs := by
  refine ⟨h.1, h.2.imp id ?_⟩
  rintro ⟨g, cap, cur, rfl, -, hg⟩
  exact ⟨g, cap, cur, rfl, hB g rfl, hg⟩
theorem writer_new (w : World) : WrK w (fun k => k < w.heap.size) (w.alloc (.cells #[.slice none 0 0] 99)) w.heap.size [] (.slice none 0 0) where
  whole := Whole.new w #[.slice none 0 0] 99
  own := ⟨rfl, .inl ⟨rfl, rfl⟩⟩
  ne := fun h => by cases h
  free := fun k hk => by
    rcases hk with rfl | hk
    · exact Nat.lt_irrefl _
    · cases hk
  lt := fun k hk => by rw [World.size_alloc]; omega
  old := fun k hk => hk
  below := (Below.refl _ _).alloc (Nat.le_refl _) _
theorem ProgOk.inn {w : World} {p : ProgT} (h : ProgOk w p) : ProgIn w p := ⟨h.book.inn, h.rows _ (by simp), h.rows _ (by simp)⟩
set_option maxRecDepth 100000 in
set_option maxHeartbeats 8000000 in
theorem encode_any (p : ProgT) (w : World) (hp : ProgOk w p) (hL : Lim w) : Calls Tryz.prog 24 #[p.val] w (BytesAns (encodeS p.p) w) := by
  have hb1 : Below w.heap.size w (w.alloc (.cells #[.int .i64 p.book.vars, .slice p.book.ords.1 p.book.ords.2.2.length p.book.ords.2.1, entsV p.book.ents, .int .i64 p.book.nat, .slice p.book.prims.1 p.book.prims.2.2.length p.book.prims.2.1, rowV p.main, rowV p.typ] 46)) := (Below.refl _ _).alloc (Nat.le_refl _) _
  have hbx := holds_at w #[.int .i64 p.book.vars, .slice p.book.ords.1 p.book.ords.2.2.length p.book.ords.2.1, entsV p.book.ents, .int .i64 p.book.nat, .slice p.book.prims.1 p.book.prims.2.2.length p.book.prims.2.1, rowV p.main, rowV p.typ] 46 _ rfl
  have HK := Lib.hid (progFault_any p _ (hp.below hb1) (hL.next hb1))
  have HST := Lib.hid (show ∀ W, Below (w.heap.size + 1) (w.alloc (.cells #[.int .i64 p.book.vars, .slice p.book.ords.1 p.book.ords.2.2.length p.book.ords.2.1, entsV p.book.ents, .int .i64 p.book.nat, .slice p.book.prims.1 p.book.prims.2.2.length p.book.prims.2.1, rowV p.main, rowV p.typ] 46)) W → W.cell? ⟨w.heap.size, 0, none⟩ = some (.int .i64 p.book.vars) ∧ W.cell? ⟨w.heap.size, 1, none⟩ = some (.slice p.book.ords.1 p.book.ords.2.2.length p.book.ords.2.1) ∧ W.cell? ⟨w.heap.size, 2, none⟩ = some (entsV p.book.ents) ∧ W.cell? ⟨w.heap.size, 3, none⟩ = some (.int .i64 p.book.nat) ∧ W.cell? ⟨w.heap.size, 4, none⟩ = some (.slice p.book.prims.1 p.book.prims.2.2.length p.book.prims.2.1) ∧ W.cell? ⟨w.heap.size, 5, none⟩ = some (rowV p.main) ∧ W.cell? ⟨w.heap.size, 6, none⟩ = some (rowV p.typ) from fun W h => by
    have hh := hbx.below (w' := W) (by rw [World.size_alloc]; exact h)
    have q := fun (j : Nat) (u : Value) (hu : [.int .i64 p.book.vars, .slice p.book.ords.1 p.book.ords.2.2.length p.book.ords.2.1, entsV p.book.ents, .int .i64 p.book.nat, .slice p.book.prims.1 p.book.prims.2.2.length p.book.prims.2.1, rowV p.main, rowV p.typ][j]? = some u) => hh.cell (j := j) hu
    simp only [Nat.zero_add] at q
    exact ⟨q 0 _ rfl, q 1 _ rfl, q 2 _ rfl, q 3 _ rfl, q 4 _ rfl, q 5 _ rfl, q 6 _ rfl⟩)
  have HB := Lib.hid hb1
  have HPW := Lib.hid (show progE p.p = 0 → ProgW p from prog_right hp.book.wide)
  have HWR := Lib.hid (show ∀ w2, Below w.heap.size w w2 → ProgW p → Calls Tryz.prog 59 #[.pointer (some ⟨w2.heap.size, 0, none⟩), p.val] (w2.alloc (.cells #[.slice none 0 0] 99)) (WPost w2 (fun k => k < w2.heap.size) w2.heap.size (encG p.p) (w2.alloc (.cells #[.slice none 0 0] 99))) from fun w2 h hw =>
    wprog_any w2 _ _ _ p _ (writer_new w2) (hp.below h).inn hw)
  have HS := Lib.hid (show ∀ r, progE p.p = r → encodeS p.p = if r ≠ 0 then ([], r) else if 65536 < (encG p.p).length then ([], 6) else (encG p.p, 0) from fun r h => by rw [← h]; rfl)
  generalize encodeS p.p = res at *
  clear hp hL hb1 hbx
  go_enter Tryz.func24, Tryz.ntmps24
  have c0 := HST.out _ (Below.refl _ _)
  obtain ⟨c0, c1, c2, c3, c4, c5, c6⟩ := c0
  go_wp2_with fail
  refine (HK.out).mono ?_
  rintro e w2 ⟨rfl, hb2⟩
  rw [World.size_alloc] at hb2
  have HB2 := Lib.hid (hb2.mono (Nat.le_succ w.heap.size))
  have HBW := Lib.hid (HB.out.trans HB2.out)
  obtain ⟨d0, d1, d2, d3, d4, d5, d6⟩ := HST.out w2 hb2
  have hl2 : w.heap.size < w2.heap.size := by have := hb2.size; rw [World.size_alloc] at this; omega
  clear c0 c1 c2 c3 c4 c5 c6 hb2 HK
  obtain ⟨r, hr⟩ : ∃ r, progE p.p = r := ⟨_, rfl⟩
  have HR := Lib.hid (HS.out r hr)
  have HPR := Lib.hid (show r = 0 → ProgW p from fun h => HPW.out (hr.trans h))
  rw [hr]
  clear hr HS HPW
  by_cases h0 : r = 0
  · subst h0
    have HC := Lib.hid (HWR.out w2 HBW.out (HPR.out rfl))
    have HRR := Lib.hid ((HR.out).trans (if_neg (by simp)))
    have g0 := (World.cell?_alloc_lt w2 (.cells #[.slice none 0 0] 99) ⟨w.heap.size, 0, none⟩ hl2).trans d0
    have g1 := (World.cell?_alloc_lt w2 (.cells #[.slice none 0 0] 99) ⟨w.heap.size, 1, none⟩ hl2).trans d1
    have g2 := (World.cell?_alloc_lt w2 (.cells #[.slice none 0 0] 99) ⟨w.heap.size, 2, none⟩ hl2).trans d2
    have g3 := (World.cell?_alloc_lt w2 (.cells #[.slice none 0 0] 99) ⟨w.heap.size, 3, none⟩ hl2).trans d3
    have g4 := (World.cell?_alloc_lt w2 (.cells #[.slice none 0 0] 99) ⟨w.heap.size, 4, none⟩ hl2).trans d4
    have g5 := (World.cell?_alloc_lt w2 (.cells #[.slice none 0 0] 99) ⟨w.heap.size, 5, none⟩ hl2).trans d5
    have g6 := (World.cell?_alloc_lt w2 (.cells #[.slice none 0 0] 99) ⟨w.heap.size, 6, none⟩ hl2).trans d6
    clear d0 d1 d2 d3 d4 d5 d6 HR HPR HWR HST
    go_wp2_with fail
    refine (HC.out).mono ?_
    rintro e w3 ⟨rfl, ⟨v3, hw3⟩, -⟩
    have HOV := Lib.hid (over_any _ _ _ _ _ _ hw3)
    obtain ⟨A, c, rfl, hs, -⟩ := own_slice hw3.own
    have c9 : w3.cell? ⟨w2.heap.size, 0, none⟩ = some (.slice A (encG p.p).length c) := hw3.whole.cell 0
    have HOW := Lib.hid (own_rebase (B := w.heap.size) hw3.own fun k hk => by
      have h1 := hw3.free k (.inr hk)
      omega)
    have HB3 := Lib.hid (HBW.out.trans (hw3.below.mono (Nat.le_of_lt hl2)))
    have HSL := Lib.hid hs
    clear hw3 hs g0 g1 g2 g3 g4 g5 g6
    go_wp2_with fail
    refine (HOV.out).mono ?_
    rintro e w4 ⟨rfl, rfl⟩
    by_cases h1 : 65536 < (encG p.p).length
    · rw [decide_eq_true h1]
      have HX := Lib.hid ((HRR.out).trans (if_pos h1))
      go_wp2_with fail
      go_ret2
      exact .none _ _ HX.out (by omega) HB3.out
    · rw [decide_eq_false h1]
      have HX := Lib.hid ((HRR.out).trans (if_neg h1))
      go_wp2_with fail
      go_ret2
      refine .some _ A _ c (by rw [HX.out]) (by rw [HX.out]) ?_ HSL.out HB3.out
      rw [HX.out]
      exact HOW.out
  · have HX := Lib.hid ((HR.out).trans (if_pos h0))
    have h0b : (r != 0) = true := by simpa using h0
    go_wp2_with fail
    go_ret2
    exact .none _ _ HX.out h0 HBW.out
end Go.Proofs.YtfeodppdmbideaaGreatDoor
namespace Go.Proofs.YtfeodppdmbideaaGreatDoor
open Go.RowKit

def numP : BookP := ⟨0, [], [⟨1, [(2, 1, 1), (3, 0, 0)], [], [], [⟨[], []⟩, ⟨[[(9, 0, 0)]], []⟩], [], []⟩], 0, []⟩
theorem slice_few (b n : Nat) (h : n ≤ 1000) : Slice (some ⟨b, 0, none⟩) n n := ⟨Nat.le_refl _, by omega, fun h => by cases h⟩
theorem rows_nilIn (w : World) : RowsIn w (none, 0, []) := ⟨slice_nil, Holds.nil _ _, fun _ hx => (by cases hx)⟩
theorem row_nilIn (w : World) : RowIn1 w (none, 0, []) := ⟨slice_nil, Holds.nil _ _⟩
abbrev numB (s : Nat) : BookT := ⟨0, (none, 0, []), (some ⟨s + 1 + 1 + 1 + 1 + 1, 0, none⟩, 1, [⟨1, (some ⟨s + 1, 0, none⟩, 2, [(2, 1, 1), (3, 0, 0)]), (none, 0, []), (none, 0, []), (some ⟨s + 1 + 1 + 1 + 1, 0, none⟩, 2, [⟨(none, 0, []), (none, 0, [])⟩, ⟨(some ⟨s + 1 + 1 + 1, 0, none⟩, 1, [(some ⟨s + 1 + 1, 0, none⟩, 1, [(9, 0, 0)])]), (none, 0, [])⟩]), (none, 0, []), (none, 0, [])⟩]), 0, (none, 0, [])⟩
theorem numB_in (s : Nat) (W : World) (h1 : Holds W (some ⟨s + 1, 0, none⟩) (nodesV [(2, 1, 1), (3, 0, 0)])) (h2 : Holds W (some ⟨s + 1 + 1, 0, none⟩) (nodesV [(9, 0, 0)])) (h3 : Holds W (some ⟨s + 1 + 1 + 1, 0, none⟩) [.slice (some ⟨s + 1 + 1, 0, none⟩) 1 1])
    (h4 : Holds W (some ⟨s + 1 + 1 + 1 + 1, 0, none⟩) [.slice none 0 0, .slice none 0 0, .slice (some ⟨s + 1 + 1 + 1, 0, none⟩) 1 1, .slice none 0 0]) (h5 : Holds W (some ⟨s + 1 + 1 + 1 + 1 + 1, 0, none⟩) [.int .i64 1, .slice (some ⟨s + 1, 0, none⟩) 2 2, .slice none 0 0, .slice none 0 0, .slice (some ⟨s + 1 + 1 + 1 + 1, 0, none⟩) 2 2, .slice none 0 0, .slice none 0 0]) : BookOk W (numB s) := by
  have wn : ∀ n : Node3, n ∈ [((2, 1, 1) : Node3), (3, 0, 0), (9, 0, 0)] → Wide3 n := fun n hn => by
    simp only [List.mem_cons, List.not_mem_nil, or_false] at hn
    rcases hn with rfl | rfl | rfl <;> exact ⟨i64_few (by decide) (by decide), i64_few (by decide) (by decide), i64_few (by decide) (by decide)⟩
  have nilW : WideRows [] ∧ LongR [] := ⟨fun _ hx => (by cases hx), fun _ hx => (by cases hx)⟩
  have oneW : WideRows [((some ⟨s + 1 + 1, 0, none⟩, 1, [(9, 0, 0)]) : RowT)] ∧ LongR [((some ⟨s + 1 + 1, 0, none⟩, 1, [(9, 0, 0)]) : RowT)] := by
    refine ⟨fun x hx n hn => ?_, fun x hx => ?_⟩ <;> (rw [List.mem_singleton] at hx; subst hx)
    · exact wn n (by simp only [List.mem_singleton] at hn; subst hn; simp)
    · simp
  have c1 : CtorOk W ⟨(none, 0, []), (none, 0, [])⟩ := ⟨⟨rows_nilIn _, rows_nilIn _⟩, ⟨nilW.1, nilW.1⟩, ⟨nilW.2, nilW.2⟩, by simp, by simp⟩
  have c2 : CtorOk W ⟨(some ⟨s + 1 + 1 + 1, 0, none⟩, 1, [(some ⟨s + 1 + 1, 0, none⟩, 1, [(9, 0, 0)])]), (none, 0, [])⟩ := ⟨⟨⟨slice_few _ _ (by simp), h3, fun x hx => by
    rw [List.mem_singleton] at hx
    subst hx
    exact ⟨slice_few _ _ (by simp), h2⟩⟩, rows_nilIn _⟩, ⟨oneW.1, nilW.1⟩, ⟨oneW.2, nilW.2⟩, by simp, by simp⟩
  have cs : ∀ c ∈ [(⟨(none, 0, []), (none, 0, [])⟩ : CtorT), ⟨(some ⟨s + 1 + 1 + 1, 0, none⟩, 1, [(some ⟨s + 1 + 1, 0, none⟩, 1, [(9, 0, 0)])]), (none, 0, [])⟩], CtorOk W c := fun c hc => by
    simp only [List.mem_cons, List.not_mem_nil, or_false] at hc
    rcases hc with rfl | rfl
    · exact c1
    · exact c2
  have e : ∀ x ∈ (numB s).ents.2.2, EntOk W x := fun x hx => by
    rw [List.mem_singleton] at hx
    subst hx
    exact ⟨⟨⟨slice_few _ _ (by simp), h1⟩, rows_nilIn _, rows_nilIn _, ⟨slice_few _ _ (by simp), h4, fun c hc => (cs c hc).inn⟩, row_nilIn _, row_nilIn _⟩,
      ⟨(i64_few (x := 1) (by decide) (by decide) : I64 1), fun n hn => wn n (by simp only [List.mem_cons, List.not_mem_nil, or_false] at hn ⊢; rcases hn with h | h <;> simp [h]), nilW.1, nilW.1, fun c hc => (cs c hc).wide, fun _ hx => (by cases hx), fun _ hx => (by cases hx)⟩,
      ⟨nilW.2, nilW.2, by simp, by simp, by simp⟩, ⟨by simp, by simp, by simp⟩, cs⟩
  exact ⟨⟨⟨slice_nil, Holds.nil _ _⟩, ⟨slice_few _ _ (by simp), h5, fun x hx => (e x hx).inn⟩, ⟨slice_nil, Holds.nil _ _⟩⟩, ⟨(i64_few (x := 0) (by decide) (by decide) : I64 0), (i64_few (x := 0) (by decide) (by decide) : I64 0), fun _ hx => (by cases hx), fun x hx => (e x hx).wide, fun _ hx => (by cases hx)⟩, e, ⟨by simp, by simp, by simp⟩⟩
set_option maxRecDepth 100000 in
set_option maxHeartbeats 8000000 in
theorem numbers_ret (w : World) : Calls Tryz.prog 34 #[] w (fun e w' => e = .returned (numB w.heap.size).val ∧ BookOk w' (numB w.heap.size) ∧ Below w.heap.size w w') := by
  have g0 := holds_at w #[.int .i64 0, .slice none 0 0, .slice (some ⟨w.heap.size + 1 + 1 + 1 + 1 + 1, 0, none⟩) 1 1, .int .i64 0, .slice none 0 0] 26 _ rfl
  replace g0 := g0.alloc (.cells #[.int .i64 2, .int .i64 1, .int .i64 1, .int .i64 3, .int .i64 0, .int .i64 0] 67)
  replace g0 := g0.alloc (.cells #[.int .i64 9, .int .i64 0, .int .i64 0] 67)
  replace g0 := g0.alloc (.cells #[.slice (some ⟨w.heap.size + 1 + 1, 0, none⟩) 1 1] 28)
  replace g0 := g0.alloc (.cells #[.slice none 0 0, .slice none 0 0, .slice (some ⟨w.heap.size + 1 + 1 + 1, 0, none⟩) 1 1, .slice none 0 0] 62)
  replace g0 := g0.alloc (.cells #[.int .i64 1, .slice (some ⟨w.heap.size + 1, 0, none⟩) 2 2, .slice none 0 0, .slice none 0 0, .slice (some ⟨w.heap.size + 1 + 1 + 1 + 1, 0, none⟩) 2 2, .slice none 0 0, .slice none 0 0] 60)
  have g1 := holds_at (w.alloc (.cells #[.int .i64 0, .slice none 0 0, .slice (some ⟨w.heap.size + 1 + 1 + 1 + 1 + 1, 0, none⟩) 1 1, .int .i64 0, .slice none 0 0] 26)) #[.int .i64 2, .int .i64 1, .int .i64 1, .int .i64 3, .int .i64 0, .int .i64 0] 67 _ rfl
  replace g1 := g1.alloc (.cells #[.int .i64 9, .int .i64 0, .int .i64 0] 67)
  replace g1 := g1.alloc (.cells #[.slice (some ⟨w.heap.size + 1 + 1, 0, none⟩) 1 1] 28)
  replace g1 := g1.alloc (.cells #[.slice none 0 0, .slice none 0 0, .slice (some ⟨w.heap.size + 1 + 1 + 1, 0, none⟩) 1 1, .slice none 0 0] 62)
  replace g1 := g1.alloc (.cells #[.int .i64 1, .slice (some ⟨w.heap.size + 1, 0, none⟩) 2 2, .slice none 0 0, .slice none 0 0, .slice (some ⟨w.heap.size + 1 + 1 + 1 + 1, 0, none⟩) 2 2, .slice none 0 0, .slice none 0 0] 60)
  have g2 := holds_at ((w.alloc (.cells #[.int .i64 0, .slice none 0 0, .slice (some ⟨w.heap.size + 1 + 1 + 1 + 1 + 1, 0, none⟩) 1 1, .int .i64 0, .slice none 0 0] 26)).alloc (.cells #[.int .i64 2, .int .i64 1, .int .i64 1, .int .i64 3, .int .i64 0, .int .i64 0] 67)) #[.int .i64 9, .int .i64 0, .int .i64 0] 67 _ rfl
  replace g2 := g2.alloc (.cells #[.slice (some ⟨w.heap.size + 1 + 1, 0, none⟩) 1 1] 28)
  replace g2 := g2.alloc (.cells #[.slice none 0 0, .slice none 0 0, .slice (some ⟨w.heap.size + 1 + 1 + 1, 0, none⟩) 1 1, .slice none 0 0] 62)
  replace g2 := g2.alloc (.cells #[.int .i64 1, .slice (some ⟨w.heap.size + 1, 0, none⟩) 2 2, .slice none 0 0, .slice none 0 0, .slice (some ⟨w.heap.size + 1 + 1 + 1 + 1, 0, none⟩) 2 2, .slice none 0 0, .slice none 0 0] 60)
  have g3 := holds_at (((w.alloc (.cells #[.int .i64 0, .slice none 0 0, .slice (some ⟨w.heap.size + 1 + 1 + 1 + 1 + 1, 0, none⟩) 1 1, .int .i64 0, .slice none 0 0] 26)).alloc (.cells #[.int .i64 2, .int .i64 1, .int .i64 1, .int .i64 3, .int .i64 0, .int .i64 0] 67)).alloc (.cells #[.int .i64 9, .int .i64 0, .int .i64 0] 67)) #[.slice (some ⟨w.heap.size + 1 + 1, 0, none⟩) 1 1] 28 _ rfl
  replace g3 := g3.alloc (.cells #[.slice none 0 0, .slice none 0 0, .slice (some ⟨w.heap.size + 1 + 1 + 1, 0, none⟩) 1 1, .slice none 0 0] 62)
  replace g3 := g3.alloc (.cells #[.int .i64 1, .slice (some ⟨w.heap.size + 1, 0, none⟩) 2 2, .slice none 0 0, .slice none 0 0, .slice (some ⟨w.heap.size + 1 + 1 + 1 + 1, 0, none⟩) 2 2, .slice none 0 0, .slice none 0 0] 60)
  have g4 := holds_at ((((w.alloc (.cells #[.int .i64 0, .slice none 0 0, .slice (some ⟨w.heap.size + 1 + 1 + 1 + 1 + 1, 0, none⟩) 1 1, .int .i64 0, .slice none 0 0] 26)).alloc (.cells #[.int .i64 2, .int .i64 1, .int .i64 1, .int .i64 3, .int .i64 0, .int .i64 0] 67)).alloc (.cells #[.int .i64 9, .int .i64 0, .int .i64 0] 67)).alloc (.cells #[.slice (some ⟨w.heap.size + 1 + 1, 0, none⟩) 1 1] 28)) #[.slice none 0 0, .slice none 0 0, .slice (some ⟨w.heap.size + 1 + 1 + 1, 0, none⟩) 1 1, .slice none 0 0] 62 _ rfl
  replace g4 := g4.alloc (.cells #[.int .i64 1, .slice (some ⟨w.heap.size + 1, 0, none⟩) 2 2, .slice none 0 0, .slice none 0 0, .slice (some ⟨w.heap.size + 1 + 1 + 1 + 1, 0, none⟩) 2 2, .slice none 0 0, .slice none 0 0] 60)
  have g5 := holds_at (((((w.alloc (.cells #[.int .i64 0, .slice none 0 0, .slice (some ⟨w.heap.size + 1 + 1 + 1 + 1 + 1, 0, none⟩) 1 1, .int .i64 0, .slice none 0 0] 26)).alloc (.cells #[.int .i64 2, .int .i64 1, .int .i64 1, .int .i64 3, .int .i64 0, .int .i64 0] 67)).alloc (.cells #[.int .i64 9, .int .i64 0, .int .i64 0] 67)).alloc (.cells #[.slice (some ⟨w.heap.size + 1 + 1, 0, none⟩) 1 1] 28)).alloc (.cells #[.slice none 0 0, .slice none 0 0, .slice (some ⟨w.heap.size + 1 + 1 + 1, 0, none⟩) 1 1, .slice none 0 0] 62)) #[.int .i64 1, .slice (some ⟨w.heap.size + 1, 0, none⟩) 2 2, .slice none 0 0, .slice none 0 0, .slice (some ⟨w.heap.size + 1 + 1 + 1 + 1, 0, none⟩) 2 2, .slice none 0 0, .slice none 0 0] 60 _ rfl
  simp only [World.size_alloc] at g0 g1 g2 g3 g4 g5
  have hb : Below w.heap.size w ((((((w.alloc (.cells #[.int .i64 0, .slice none 0 0, .slice (some ⟨w.heap.size + 1 + 1 + 1 + 1 + 1, 0, none⟩) 1 1, .int .i64 0, .slice none 0 0] 26)).alloc (.cells #[.int .i64 2, .int .i64 1, .int .i64 1, .int .i64 3, .int .i64 0, .int .i64 0] 67)).alloc (.cells #[.int .i64 9, .int .i64 0, .int .i64 0] 67)).alloc (.cells #[.slice (some ⟨w.heap.size + 1 + 1, 0, none⟩) 1 1] 28)).alloc (.cells #[.slice none 0 0, .slice none 0 0, .slice (some ⟨w.heap.size + 1 + 1 + 1, 0, none⟩) 1 1, .slice none 0 0] 62)).alloc (.cells #[.int .i64 1, .slice (some ⟨w.heap.size + 1, 0, none⟩) 2 2, .slice none 0 0, .slice none 0 0, .slice (some ⟨w.heap.size + 1 + 1 + 1 + 1, 0, none⟩) 2 2, .slice none 0 0, .slice none 0 0] 60)) := (((((((Below.refl _ _).alloc (by (try simp only [World.size_alloc]); omega) _).alloc (by (try simp only [World.size_alloc]); omega) _).alloc (by (try simp only [World.size_alloc]); omega) _).alloc (by (try simp only [World.size_alloc]); omega) _).alloc (by (try simp only [World.size_alloc]); omega) _).alloc (by (try simp only [World.size_alloc]); omega) _)
  obtain ⟨V, hV⟩ : ∃ V, V = ((((((w.alloc (.cells #[.int .i64 0, .slice none 0 0, .slice (some ⟨w.heap.size + 1 + 1 + 1 + 1 + 1, 0, none⟩) 1 1, .int .i64 0, .slice none 0 0] 26)).alloc (.cells #[.int .i64 2, .int .i64 1, .int .i64 1, .int .i64 3, .int .i64 0, .int .i64 0] 67)).alloc (.cells #[.int .i64 9, .int .i64 0, .int .i64 0] 67)).alloc (.cells #[.slice (some ⟨w.heap.size + 1 + 1, 0, none⟩) 1 1] 28)).alloc (.cells #[.slice none 0 0, .slice none 0 0, .slice (some ⟨w.heap.size + 1 + 1 + 1, 0, none⟩) 1 1, .slice none 0 0] 62)).alloc (.cells #[.int .i64 1, .slice (some ⟨w.heap.size + 1, 0, none⟩) 2 2, .slice none 0 0, .slice none 0 0, .slice (some ⟨w.heap.size + 1 + 1 + 1 + 1, 0, none⟩) 2 2, .slice none 0 0, .slice none 0 0] 60)) := ⟨_, rfl⟩
  rw [← hV] at g0 g1 g2 g3 g4 g5 hb
  have HV := Lib.hid hV
  have HBK := Lib.hid (numB_in _ V g1 g2 g3 g4 g5)
  have HB := Lib.hid hb
  have r0 := g0.cell (j := 0) rfl
  have r1 := g0.cell (j := 1) rfl
  have r2 := g0.cell (j := 2) rfl
  have r3 := g0.cell (j := 3) rfl
  have r4 := g0.cell (j := 4) rfl
  simp only [Nat.zero_add] at r0 r1 r2 r3 r4
  clear hV g0 g1 g2 g3 g4 g5 hb
  go_enter Tryz.func34, Tryz.ntmps34
  go_wp2_with fail
  rw [← HV.out]
  refine bodyPost_ret (by simp [results, Tryz.results34, go_sem, r0, r1, r2, r3, r4]; try rfl) rfl ?_
  exact ⟨rfl, HBK.out, HB.out⟩
theorem numB_p (s : Nat) : (numB s).p = numP := rfl
end Go.Proofs.YtfeodppdmbideaaGreatDoor
