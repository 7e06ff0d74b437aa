/- The walk of term.Subst. -/
import Derived.Test.YtkkkblghihheeaaDoorTSub1
import Derived.Laws.MakeOwn
namespace Go.Proofs.YtkkkblghihheeaaDoor
open Go.RowKit

theorem subX_len {at_ : Int} {b : Ann} {x : Node3 × Nat} (h : b.length ≤ 4096) : (subX at_ b x).length ≤ 4096 := by
  unfold subX
  split
  · simp
  split
  · simp
  · rw [List.length_map]; exact h
theorem sub_len {at_ : Int} {b : Ann} (h : b.length ≤ 4096) : ∀ l : Ann, (l.flatMap (subX at_ b)).length ≤ l.length * 4096 := by
  intro l
  induction l with
  | nil => simp
  | cons x l ih =>
    have := subX_len (at_ := at_) (x := x) h
    rw [List.flatMap_cons, List.length_append, List.length_cons]
    omega
/-- The state of Subst's visitor. -/
structure SubIn (at_ rm : Int) (a b : Ann) (A Au : Option Addr) (n c nu cu : Nat) (t u : List Node3) (g bt bat bm bu rb : Nat) (w0 : World) (i : Nat) (F : Nat → Prop) (W : World) : Prop where
  grow : ∃ v, GrowAt W g ((a.take i).flatMap (subX at_ b)) v ∧ ∀ k, F k ↔ GrowF g v k
  from_ : ∀ k, F k → w0.heap.size ≤ k
  out : ¬ F bt ∧ ¬ F bat ∧ ¬ F bm ∧ ¬ F bu ∧ ¬ F rb
  ct : W.cell? ⟨bt, 0, none⟩ = some (.slice A n c)
  ca : W.cell? ⟨bat, 0, none⟩ = some (.int .i64 at_)
  cm : W.cell? ⟨bm, 0, none⟩ = some (.int .i64 rm)
  cu : W.cell? ⟨bu, 0, none⟩ = some (.slice Au nu cu)
  res : Whole W rb #[.int .i64 0] 26
  row : Holds W A (nodesV t)
  rowu : Holds W Au (nodesV u)
  lim : Lim W
  below : Below w0.heap.size w0 W
  fine : ∀ j (hj : j < a.length), j < i → freeN a[j].1 a[j].2 = at_ → at_ + a[j].2 ≤ rm
/-- How Subst's visitor gives up. -/
def SubStop (at_ rm : Int) (a : Ann) (rb : Nat) (w0 : World) (ch : List PanicEntry) (W : World) : Prop :=
  ch = faultP 6 ∧ Below w0.heap.size w0 W ∧ Whole W rb #[.int .i64 0] 26 ∧ ∃ x ∈ a, freeN x.1 x.2 = at_ ∧ rm < at_ + x.2
theorem sub_vis (at_ rm : Int) (a b : Ann) (A Au : Option Addr) (n c nu cu : Nat) (t u : List Node3) (g bt bat bm bu rb : Nat) (w0 : World) (B0 : Nat) (e0 eu : Node3) (hn : t.length = n) (hnb : n ≤ 4096) (hW : W t (0, 0, 0) [⟨0, 0⟩] = some (a, [], e0))
    (hu : u.length = nu) (hu0 : 0 < nu) (hub : nu ≤ 4096) (hsu : Slice Au nu cu) (hWu : W u (0, 0, 0) [⟨0, 0⟩] = some (b, [], eu)) (hat : 0 ≤ at_) (hat2 : I64 at_) (hrm : rm = roomN 0 b)
    (hB : w0.heap.size ≤ B0) (h1 : bt < B0) (h2 : bat < B0) (h3 : bm < B0) (h4 : bu < B0) (h5 : rb < B0) (hAB : ∀ b o, A = some ⟨b, o, none⟩ → b < w0.heap.size) (hAuB : ∀ b o, Au = some ⟨b, o, none⟩ → b < w0.heap.size) (hp : 0 < w0.heap.size) :
    Vis 65 #[.pointer (some ⟨bt, 0, none⟩), .pointer (some ⟨bat, 0, none⟩), .pointer (some ⟨g, 0, none⟩), .pointer (some ⟨bm, 0, none⟩), .pointer (some ⟨bu, 0, none⟩)] a 0 B0 (SubIn at_ rm a b A Au n c nu cu t u g bt bat bm bu rb w0) (SubStop at_ rm a rb w0) := by
  have hrow := W_row _ _ _ _ _ _ hW
  rw [List.append_nil] at hrow
  have hal : a.length = n := by rw [← hn, hrow.1, List.length_map]
  have hrowu := W_row _ _ _ _ _ _ hWu
  rw [List.append_nil] at hrowu
  have hbl : b.length ≤ 4096 := by
    have : b.length = nu := by rw [← hu, hrowu.1, List.length_map]
    omega
  refine ⟨fun args w => by simp [go_sem], fun i F W h k hk => ?_, fun i F W W' h ho => ?_, fun i F W hi h => ?_⟩
  · obtain ⟨v, hg, hF⟩ := h.grow
    exact hg.lt k ((hF k).1 hk)
  · obtain ⟨v, hg, hF⟩ := h.grow
    have hl := h.lim.pos
    refine ⟨⟨v, hg.only ho fun k hk hh => hh.2 ((hF k).2 hk), hF⟩, h.from_, h.out, ?_, ?_, ?_, ?_, ?_, ?_, ?_, ?_, ?_, h.fine⟩
    · exact (ho.cell (p := ⟨bt, 0, none⟩) (World.block_lt_of_cell? _ _ h.ct) (by simp only; omega)).trans h.ct
    · exact (ho.cell (p := ⟨bat, 0, none⟩) (World.block_lt_of_cell? _ _ h.ca) (by simp only; omega)).trans h.ca
    · exact (ho.cell (p := ⟨bm, 0, none⟩) (World.block_lt_of_cell? _ _ h.cm) (by simp only; omega)).trans h.cm
    · exact (ho.cell (p := ⟨bu, 0, none⟩) (World.block_lt_of_cell? _ _ h.cu) (by simp only; omega)).trans h.cu
    · exact h.res.only ho fun hh => by omega
    · exact h.row.only ho fun b o e hh => by have := hAB b o e; omega
    · exact h.rowu.only ho fun b o e hh => by have := hAuB b o e; omega
    · exact Holds.only h.lim ho fun b o e hh => by cases e; omega
    · exact h.below.trans (ho.below h.below.size fun k hk hh => by omega)
  · obtain ⟨v, hg, hF⟩ := h.grow
    have hgF : ∀ k, GrowF g v k → F k := fun k hk => (hF k).2 hk
    have hti : t[i]'(by omega) = a[i].1 := by
      have h1 : t[i]? = (a.map Prod.fst)[i]? := by rw [← hrow.1]
      rw [List.getElem?_eq_getElem (by omega), List.getElem?_map, List.getElem?_eq_getElem hi] at h1
      simpa using h1
    have hmem := List.getElem_mem hi
    have hok := W_holds _ _ _ _ _ _ hW _ hmem
    have hk := W_bound _ _ _ _ _ _ 0 hW (by simp) _ hmem
    have hLb := sub_len (at_ := at_) hbl (a.take i)
    rw [List.length_take] at hLb
    have hfg := h.from_ g (hgF g (.inl rfl))
    have hs := sub1_any at_ rm g _ v A Au n c nu cu t u b eu i a[i] bt bat bm bu W hg hn hnb (by omega) hti hok (by omega) h.row hu hu0 hub hsu h.rowu (fun b o e => by have := hAuB b o e; omega) hWu h.lim (by omega) h.ct h.ca h.cm h.cu hat hat2 hrm (by omega)
    rw [Nat.zero_add]
    refine hs.mono fun e W' hp => ?_
    rcases hp with ⟨hfin, he, v', hg', ho, hn'⟩ | ⟨he, hf, hlt, hb⟩
    · refine .inl ⟨he, GrowF g v', ?_, ho.mono hgF, fun k hk => (hn' k hk).imp (hgF k) id⟩
      have hno : ∀ k, k < W.heap.size → ¬ F k → ¬ GrowF g v' k := fun k hk hf hh => by
        rcases hn' k hh with h' | h'
        · exact hf (hgF k h')
        · omega
      have hoF : Only F W W' := ho.mono hgF
      have l1 := World.block_lt_of_cell? _ _ h.ct
      have l2 := World.block_lt_of_cell? _ _ h.ca
      have l3 := World.block_lt_of_cell? _ _ h.cm
      have l4 := World.block_lt_of_cell? _ _ h.cu
      refine ⟨⟨v', ?_, fun _ => Iff.rfl⟩, fun k hk => ?_, ⟨hno _ l1 h.out.1, hno _ l2 h.out.2.1, hno _ l3 h.out.2.2.1, hno _ l4 h.out.2.2.2.1, hno _ h.res.lt h.out.2.2.2.2⟩, ?_, ?_, ?_, ?_, ?_, ?_, ?_, ?_, ?_, ?_⟩
      · rw [take_snoc hi, List.flatMap_append]
        simpa using hg'
      · rcases hn' k hk with h' | h'
        · exact h.from_ k (hgF k h')
        · have := h.below.size; omega
      · exact (hoF.cell (p := ⟨bt, 0, none⟩) l1 h.out.1).trans h.ct
      · exact (hoF.cell (p := ⟨bat, 0, none⟩) l2 h.out.2.1).trans h.ca
      · exact (hoF.cell (p := ⟨bm, 0, none⟩) l3 h.out.2.2.1).trans h.cm
      · exact (hoF.cell (p := ⟨bu, 0, none⟩) l4 h.out.2.2.2.1).trans h.cu
      · exact h.res.only hoF h.out.2.2.2.2
      · exact h.row.only hoF fun b o e hh => by have := hAB b o e; have := h.from_ b hh; omega
      · exact h.rowu.only hoF fun b o e hh => by have := hAuB b o e; have := h.from_ b hh; omega
      · exact Holds.only h.lim hoF fun b o e hh => by cases e; have := h.from_ _ hh; omega
      · exact h.below.trans (hoF.below h.below.size fun k hk hh => by have := h.from_ k hh; omega)
      · intro j hj hji hfj
        by_cases e : j = i
        · subst e
          exact hfin hfj
        · exact h.fine j hj (by omega) hfj
    · exact .inr ⟨_, he, rfl, h.below.trans (hb.mono h.below.size), h.res.below hb h.res.lt, a[i], hmem, hf, hlt⟩
/-- What Subst's closure answers. -/
def Sub2Post (at_ rm : Int) (a b : Ann) (g rb : Nat) (w0 : World) (e : Ending) (W' : World) : Prop :=
  (e = .returned (.tuple #[]) ∧ (∃ v, GrowAt W' g (a.flatMap (subX at_ b)) v ∧ ∀ k, GrowF g v k → w0.heap.size ≤ k ∧ k ≠ rb) ∧ Below w0.heap.size w0 W' ∧ Whole W' rb #[.int .i64 0] 26 ∧ ∀ x ∈ a, freeN x.1 x.2 = at_ → at_ + x.2 ≤ rm) ∨
  (∃ ch, e = .panicked ch ∧ SubStop at_ rm a rb w0 ch W')
set_option maxHeartbeats 1000000 in
theorem sub2_any (at_ rm : Int) (a b : Ann) (A Au : Option Addr) (n c nu cu : Nat) (t u : List Node3) (g bt bat bm bu rb : Nat) (w0 Ww : World) (F : Nat → Prop) (e0 eu : Node3) (hn : t.length = n) (hn0 : 0 < n) (hnb : n ≤ 4096) (hW : W t (0, 0, 0) [⟨0, 0⟩] = some (a, [], e0))
    (hu : u.length = nu) (hu0 : 0 < nu) (hub : nu ≤ 4096) (hsu : Slice Au nu cu) (hWu : W u (0, 0, 0) [⟨0, 0⟩] = some (b, [], eu)) (hat : 0 ≤ at_) (hat2 : I64 at_) (hrm : rm = roomN 0 b)
    (hAB : ∀ b o, A = some ⟨b, o, none⟩ → b < w0.heap.size) (hAuB : ∀ b o, Au = some ⟨b, o, none⟩ → b < w0.heap.size) (hp : 0 < w0.heap.size) (hI : SubIn at_ rm a b A Au n c nu cu t u g bt bat bm bu rb w0 0 F Ww) :
    Calls Tryd.prog 64 #[.pointer (some ⟨bt, 0, none⟩), .pointer (some ⟨bat, 0, none⟩), .pointer (some ⟨g, 0, none⟩), .pointer (some ⟨bm, 0, none⟩), .pointer (some ⟨bu, 0, none⟩)] Ww (Sub2Post at_ rm a b g rb w0) := by
  have hmf : ∀ (fn : Fn) (first cap : Array Value) (w : World), (Instr.makeFunc fn first cap).run Tryd.prog w = .ok (.func fn first cap) w := fun _ _ _ _ => rfl
  have hal : a.length = n := by
    have hrow := (W_row _ _ _ _ _ _ hW).1
    rw [List.append_nil] at hrow
    rw [← hn, hrow, List.length_map]
  have hV := sub_vis at_ rm a b A Au n c nu cu t u g bt bat bm bu rb w0 Ww.heap.size e0 eu hn hnb hW hu hu0 hub hsu hWu hat hat2 hrm hI.below.size (World.block_lt_of_cell? _ _ hI.ct) (World.block_lt_of_cell? _ _ hI.ca) (World.block_lt_of_cell? _ _ hI.cm) (World.block_lt_of_cell? _ _ hI.cu) hI.res.lt hAB hAuB hp
  have HWK := Lib.hid (walk_any A n c t 0 a [] (0, 0, 0) e0 _ _ _ _ F Ww hn (by omega) hI.row hI.lim (Nat.zero_le _) hW hI (fun b o e hf => by have := hAB b o e; have := hI.from_ b hf; omega) (fun hf => by have := hI.from_ _ hf; omega) hV)
  have ct := hI.ct
  clear hn hW hu hu0 hub hsu hWu hat hat2 hrm hAB hAuB hp hI hV
  go_enter Tryd.func64, Tryd.ntmps64
  go_wp2_with fail
  refine (HWK.out).mono ?_
  rintro e w3 (⟨rfl, F', hin, -, -⟩ | ⟨ch, rfl, hst⟩)
  · have hin := Lib.hid hin
    clear ct
    go_wp2_with fail
    go_end0
    have h := hin.out
    obtain ⟨v, hg, hF⟩ := h.grow
    refine .inl ⟨rfl, ⟨v, by rw [List.take_length] at hg; exact hg, fun k hk => ⟨h.from_ k ((hF k).2 hk), fun e => h.out.2.2.2.2 (e ▸ (hF k).2 hk)⟩⟩, h.below, h.res, fun x hx hf => ?_⟩
    obtain ⟨j, hj, rfl⟩ := List.mem_iff_getElem.1 hx
    exact h.fine j hj hj hf
  · have HST := Lib.hid hst
    clear hst
    go_wp2_with fail
    exact ⟨rfl, .inr ⟨ch, rfl, HST.out⟩⟩
end Go.Proofs.YtkkkblghihheeaaDoor
