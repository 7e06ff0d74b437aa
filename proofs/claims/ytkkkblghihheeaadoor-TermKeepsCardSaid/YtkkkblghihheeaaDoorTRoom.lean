/- term.room: by how much the free variables can be lifted. -/
import Derived.Test.YtkkkblghihheeaaDoorTFrees
namespace Go.Proofs.YtkkkblghihheeaaDoor
open Go.RowKit

def roomF (from_ : Int) (m : Int) (x : Node3 × Nat) : Int := if 0 ≤ freeN x.1 x.2 ∧ from_ ≤ freeN x.1 x.2 then (if 1048576 - x.1.2.1 < m then 1048576 - x.1.2.1 else m) else m
/-- By how much the free variables from one on can be lifted. -/
def roomN (from_ : Int) (a : Ann) : Int := a.foldl (roomF from_) 9223372036854775807
theorem take_snoc {α : Type} {l : List α} {i : Nat} (h : i < l.length) : l.take (i + 1) = l.take i ++ [l[i]] := by rw [List.take_succ_eq_append_getElem h]
theorem room_snoc {from_ : Int} {a : Ann} {i : Nat} (h : i < a.length) : roomN from_ (a.take (i + 1)) = roomF from_ (roomN from_ (a.take i)) a[i] := by
  rw [take_snoc h]; unfold roomN; rw [List.foldl_append]; rfl
theorem room_bd {from_ : Int} {a : Ann} (h : ∀ x ∈ a, holdsN x.1) : 0 ≤ roomN from_ a ∧ roomN from_ a ≤ 9223372036854775807 := by
  unfold roomN
  suffices ∀ (l : Ann) (m : Int), (∀ x ∈ l, holdsN x.1) → 0 ≤ m ∧ m ≤ 9223372036854775807 → 0 ≤ l.foldl (roomF from_) m ∧ l.foldl (roomF from_) m ≤ 9223372036854775807 from this a _ h ⟨by omega, by omega⟩
  intro l
  induction l with
  | nil => intro m _ hm; exact hm
  | cons x l ih =>
    intro m hl hm
    rw [List.foldl_cons]
    refine ih _ (fun y hy => hl y (List.mem_cons_of_mem _ hy)) ?_
    have := holds_a (hl x (by simp))
    unfold roomF
    split
    · split <;> omega
    · exact hm
/-- The state of room's visitor. -/
structure RoomIn (from_ : Int) (a : Ann) (A : Option Addr) (n c : Nat) (t : List Node3) (bf bm bt : Nat) (i : Nat) (F : Nat → Prop) (W : World) : Prop where
  blk : ∀ k, F k ↔ k = bm
  most : Whole W bm #[.int .i64 (roomN from_ (a.take i))] 3
  cf : W.cell? ⟨bf, 0, none⟩ = some (.int .i64 from_)
  ct : W.cell? ⟨bt, 0, none⟩ = some (.slice A n c)
  row : Holds W A (nodesV t)
theorem room1_skip (from_ : Int) (_A : Option Addr) (_n _c : Nat) (_t : List Node3) (i : Nat) (v : Int) (bf bm bt : Nat) (W : World) (hv : v < from_) (cf : W.cell? ⟨bf, 0, none⟩ = some (.int .i64 from_)) :
    Calls Tryd.prog 78 #[.int .i64 (i : Int), .int .i64 v, .pointer (some ⟨bf, 0, none⟩), .pointer (some ⟨bm, 0, none⟩), .pointer (some ⟨bt, 0, none⟩)] W (fun e W' => e = .returned (.tuple #[]) ∧ W = W') := by
  have h1 : ¬ from_ ≤ v := by omega
  go_enter Tryd.func78, Tryd.ntmps78
  go_wp2_with fail
  go_end0
  exact ⟨rfl, rfl⟩
set_option maxHeartbeats 1000000 in
theorem room1_take (from_ : Int) (gA oA : Nat) (n c : Nat) (i : Nat) (v m A1 : Int) (bf bm bt : Nat) (W : World) (hv : from_ ≤ v) (cf : W.cell? ⟨bf, 0, none⟩ = some (.int .i64 from_)) (ct : W.cell? ⟨bt, 0, none⟩ = some (.slice (some ⟨gA, oA, none⟩) n c))
    (hi : i < n) (cm : W.cell? ⟨bm, 0, none⟩ = some (.int .i64 m)) (fm : W.frozen? ⟨bm, 0, none⟩ = false) (r1 : W.cell? ⟨gA, oA + i * 3 + 1, none⟩ = some (.int .i64 A1)) (h0 : 0 ≤ A1) (h2 : A1 ≤ 1048576) :
    Calls Tryd.prog 78 #[.int .i64 (i : Int), .int .i64 v, .pointer (some ⟨bf, 0, none⟩), .pointer (some ⟨bm, 0, none⟩), .pointer (some ⟨bt, 0, none⟩)] W (fun e W' => e = .returned (.tuple #[]) ∧ W' = (W.setCell ⟨bm, 0, none⟩ (.int .i64 (if 1048576 - A1 < m then 1048576 - A1 else m))).drew) := by
  go_enter Tryd.func78, Tryd.ntmps78
  go_wp2_with fail
  go_region
  go_end0
  exact ⟨rfl, rfl⟩
theorem room_vis (from_ : Int) (a : Ann) (A : Option Addr) (n c : Nat) (t : List Node3) (bf bm bt B0 : Nat) (hn : t.length = n) (e0 : Node3) (hW : W t (0, 0, 0) [⟨0, 0⟩] = some (a, [], e0)) (h1 : bf < B0) (h2 : bt < B0) (h3 : bf ≠ bm) (h4 : bt ≠ bm) (hA : ∀ b o, A = some ⟨b, o, none⟩ → b < B0 ∧ b ≠ bm) :
    FVis 78 #[.pointer (some ⟨bf, 0, none⟩), .pointer (some ⟨bm, 0, none⟩), .pointer (some ⟨bt, 0, none⟩)] a B0 (RoomIn from_ a A n c t bf bm bt) := by
  have hrow := W_row _ _ _ _ _ _ hW
  rw [List.append_nil] at hrow
  have hal : a.length = n := by rw [← hn, hrow.1, List.length_map]
  refine ⟨fun args w => by simp [go_sem], fun i F W h k hk => by rw [(h.blk k).1 hk]; exact h.most.lt, fun i F W W' h ho => ?_, fun i F W hi hv h => ?_, fun i F W hi hv h => ?_⟩
  · exact ⟨h.blk, h.most.keep (ho.block bm h.most.lt fun hh => hh.2 ((h.blk bm).2 rfl)), (ho.cell (p := ⟨bf, 0, none⟩) (World.block_lt_of_cell? _ _ h.cf) (by simp only; omega)).trans h.cf,
      (ho.cell (p := ⟨bt, 0, none⟩) (World.block_lt_of_cell? _ _ h.ct) (by simp only; omega)).trans h.ct, h.row.only ho fun b o e hb => by have := hA b o e; omega⟩
  · by_cases hf : freeN a[i].1 a[i].2 < from_
    · refine (room1_skip from_ A n c t i _ bf bm bt W hf h.cf).mono fun e W' ⟨he, hw⟩ => ⟨he, F, ?_, ?_, fun _ h => .inl h⟩
      · subst hw
        refine ⟨h.blk, ?_, h.cf, h.ct, h.row⟩
        rw [room_snoc hi]
        unfold roomF
        rw [if_neg (by omega)]
        exact h.most
      · subst hw; exact Only.refl _ _
    · have hj : i < t.length := by omega
      obtain ⟨gA, oA, rfl, hgA, hcA⟩ := h.row.at_ (by rw [nodesV_len]; omega)
      have r1 := hcA (i * 3 + 1) _ (nodesV_get1 hj)
      rw [← Nat.add_assoc] at r1
      have hti : t[i] = a[i].1 := by
        have h1 : t[i]? = (a.map Prod.fst)[i]? := by rw [← hrow.1]
        rw [List.getElem?_eq_getElem hj, List.getElem?_map, List.getElem?_eq_getElem hi] at h1
        simpa using h1
      rw [hti] at r1
      have hok := holds_a (W_holds _ _ _ _ _ _ hW _ (List.getElem_mem hi))
      refine (room1_take from_ gA oA n c i _ _ _ bf bm bt W (by omega) h.cf h.ct (by omega) (h.most.cell 0) (h.most.frozen 0) r1 hok.1 hok.2).mono fun e W' ⟨he, hw⟩ => ?_
      have ho : Only F W W' := by
        rw [hw]
        exact ((Only.refl F W).set_ (.inl ((h.blk bm).2 rfl)) 0 _).drew
      refine ⟨he, F, ⟨h.blk, ?_, (ho.cell (p := ⟨bf, 0, none⟩) (World.block_lt_of_cell? _ _ h.cf) (fun hh => h3 ((h.blk _).1 hh))).trans h.cf, (ho.cell (p := ⟨bt, 0, none⟩) (World.block_lt_of_cell? _ _ h.ct) (fun hh => h4 ((h.blk _).1 hh))).trans h.ct, h.row.only ho fun b o e hb => ?_⟩, ho, fun _ h => .inl h⟩
      · rw [room_snoc hi]
        unfold roomF
        rw [if_pos ⟨hv, by omega⟩, hw]
        exact h.most.set_ 0 _
      · exact (hA b o e).2 ((h.blk _).1 hb)
  · refine ⟨h.blk, ?_, h.cf, h.ct, h.row⟩
    rw [room_snoc hi]
    unfold roomF
    rw [if_neg (by omega)]
    exact h.most
set_option maxHeartbeats 1000000 in
theorem room_any (A : Option Addr) (n c : Nat) (t : List Node3) (from_ : Int) (a : Ann) (e0 : Node3) (w : World) (hn : t.length = n) (h0 : 0 < n) (hnb : n ≤ 100000) (hA : Holds w A (nodesV t)) (hL : Lim w) (hW : W t (0, 0, 0) [⟨0, 0⟩] = some (a, [], e0)) :
    Calls Tryd.prog 54 #[.slice A n c, .int .i64 from_] w fun e w' => e = .returned (.int .i64 (roomN from_ a)) ∧ Below w.heap.size w w' := by
  have hmf : ∀ (fn : Fn) (first cap : Array Value) (w : World), (Instr.makeFunc fn first cap).run Tryd.prog w = .ok (.func fn first cap) w := fun _ _ _ _ => rfl
  have hal : a.length = n := by
    have hrow := W_row _ _ _ _ _ _ hW
    rw [List.append_nil] at hrow
    rw [← hn, hrow.1, List.length_map]
  obtain ⟨w3, hw3⟩ : ∃ w3, w3 = ((w.alloc (.cells #[.slice A n c] 23)).alloc (.cells #[.int .i64 from_] 3)).alloc (.cells #[.int .i64 9223372036854775807] 3) := ⟨_, rfl⟩
  have hb3 : Below w.heap.size w w3 := by rw [hw3]; exact (((Below.refl _ _).alloc (Nat.le_refl _) _).alloc (by simp) _).alloc (by simp; omega) _
  have hz : w3.heap.size = w.heap.size + 1 + 1 + 1 := by rw [hw3]; simp
  have x1 : Whole w3 w.heap.size #[.slice A n c] 23 := by
    rw [hw3]
    exact ((Whole.new w _ _).below ((Below.refl _ _).alloc (Nat.le_refl _) _) (by simp)).below ((Below.refl _ _).alloc (Nat.le_refl _) _) (by simp; omega)
  have x2 : Whole w3 (w.heap.size + 1) #[.int .i64 from_] 3 := by
    rw [hw3]
    have := (Whole.new (w.alloc (.cells #[.slice A n c] 23)) #[.int .i64 from_] 3).below (((Below.refl _ _).alloc (Nat.le_refl _) (.cells #[.int .i64 9223372036854775807] 3))) (by simp)
    rwa [World.size_alloc] at this
  have x3 : Whole w3 (w.heap.size + 1 + 1) #[.int .i64 9223372036854775807] 3 := by
    rw [hw3]
    have := Whole.new ((w.alloc (.cells #[.slice A n c] 23)).alloc (.cells #[.int .i64 from_] 3)) #[.int .i64 9223372036854775807] 3
    simpa using this
  have c1 := x1.cell 0
  have c2 := x2.cell 0
  replace c1 : w3.cell? ⟨w.heap.size, 0, none⟩ = some (.slice A n c) := c1
  replace c2 : w3.cell? ⟨w.heap.size + 1, 0, none⟩ = some (.int .i64 from_) := c2
  have hAlt : ∀ b o, A = some ⟨b, o, none⟩ → b < w.heap.size := fun b o e => by
    obtain ⟨b', o', e', hb, _⟩ := hA.at_ (by rw [nodesV_len]; omega)
    rw [e] at e'; cases e'; exact hb
  have hv := room_vis from_ a A n c t (w.heap.size + 1) (w.heap.size + 1 + 1) w.heap.size w3.heap.size hn e0 hW (by omega) (by omega) (by omega) (by omega) (fun b o e => by have := hAlt b o e; omega)
  have hfr := frees_any _ (fun k => k = w.heap.size + 1 + 1) A n c t a e0 _ _ w3 hv hn h0 hnb (hA.below hb3) (hL.next hb3) hW ⟨fun _ => Iff.rfl, x3, c2, c1, hA.below hb3⟩ (fun b o e hb => by have := hAlt b o e; omega) (by omega)
  have HFR := Lib.hid hfr
  have HB3 := Lib.hid hb3
  have HAL := Lib.hid hal
  have HZ := Lib.hid hz
  clear hn hA hL hb3 hz x1 x2 x3 hAlt hv hfr hW c2 h0 hal
  go_enter Tryd.func54, Tryd.ntmps54
  go_wp2_with fail
  rw [← hw3]
  clear hw3
  refine (HFR.out).mono ?_
  rintro e w4 ⟨rfl, F', hin, ho, -⟩
  have cm := hin.most.cell 0
  rw [List.take_length] at cm
  replace cm : w4.cell? ⟨w.heap.size + 1 + 1, 0, none⟩ = some (.int .i64 (roomN from_ a)) := cm
  have hbf : Below w.heap.size w w4 := HB3.out.trans (ho.below (by have := HZ.out; omega) fun k hk e => by omega)
  have HBF := Lib.hid hbf
  clear hin ho hbf c1
  go_wp2_with fail
  go_ret
  exact ⟨rfl, HBF.out⟩
end Go.Proofs.YtkkkblghihheeaaDoor
