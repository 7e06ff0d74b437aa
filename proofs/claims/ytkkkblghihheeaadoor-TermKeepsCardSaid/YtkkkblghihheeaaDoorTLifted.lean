/- slices.Clone of a row; term.lifted. -/
import Derived.Test.YtkkkblghihheeaaDoorTRoom
namespace Go.Proofs.YtkkkblghihheeaaDoor
open Go.RowKit

/-- Nodes in an own row. -/
abbrev OwnN (w : World) (B : Nat) (v : Value) (n : Nat) (l : List Node3) : Prop := w.ownsRow B 53 3 v n (nodesV l)
/-- New nodes are answered. -/
def NewN (n : Nat) (l : List Node3) (w : World) (e : Ending) (w' : World) : Prop :=
  ∃ A c, e = .returned (.slice A n c) ∧ OwnN w' w.heap.size (.slice A n c) n l ∧ Below w.heap.size w w'
set_option maxHeartbeats 1000000 in
theorem tclone_any (A : Option Addr) (n c : Nat) (t : List Node3) (w : World) (hn : t.length = n) (hs : Slice A n c) (hA : Holds w A (nodesV t)) (hnb : n ≤ 1000000) :
    Calls Tryd.prog 49 #[.slice A n c] w (NewN n t w) := by
  subst hn
  have q22 : ∀ (w : World) (a : Option Addr) (n c n' c' : Nat), (binOp .eql 23 (.slice a n c) (.slice none n' c')).run Tryd.prog w = .ok (.bool a.isNone) w := fun w a n c n' c' => Lib.run_eql_slice_nil w _ _ a n c n' c' Tryd.underlying23
  cases A with
  | none =>
    obtain ⟨h0, rfl⟩ := hs.2.2 rfl
    obtain rfl : t = [] := List.eq_nil_of_length_eq_zero h0
    go_enter Tryd.func49, Tryd.ntmps49
    go_wp2_with fail
    go_ret
    exact ⟨none, 0, rfl, ⟨by simp [nodesV], .inl ⟨rfl, rfl⟩⟩, Below.refl _ _⟩
  | some a =>
    have hlit := World.ownsRow_lit (base := w.heap.size) (e := 53) (size := 3) w #[] 0 (Nat.le_refl _) (by unfold maxLen; omega) rfl
    have hb0 : Below w.heap.size w (w.alloc (.cells #[] 53)) := (Below.refl _ _).alloc (Nat.le_refl _) _
    go_enter Tryd.func49, Tryd.ntmps49
    go_wp2_with (at_builtin; refine wpList_append_cells rfl (.tmp 5) (.tmp 6) _ rfl 53 _ 3 24 infoNode rfl (by decide) Tryd.underlying23 w.heap.size _ 0 _ [] (nodesV t) rfl hlit (some a) c rfl hs (hA.alloc _) (nodesV_len t) nodesV_one (by omega) (by decide) w hb0 (by simp) ?_; intro A1 c1 w1 hown1 hs1 hb1 hz1 hg1)
    simp only [List.nil_append, Nat.zero_add] at hown1 hs1
    go_ret
    exact ⟨A1, c1, rfl, hown1, hb1⟩
/-- A node, lifted. -/
def liftX (by_ from_ : Int) (x : Node3 × Nat) : Node3 := if 0 ≤ freeN x.1 x.2 ∧ from_ ≤ freeN x.1 x.2 then (x.1.1, x.1.2.1 + by_, x.1.2.2) else x.1
def mixed (by_ from_ : Int) (a : Ann) (i : Nat) : List Node3 := (a.take i).map (liftX by_ from_) ++ (a.drop i).map Prod.fst
theorem mixed_len (by_ from_ : Int) (a : Ann) (i : Nat) : (mixed by_ from_ a i).length = a.length := by
  unfold mixed
  simp only [List.length_append, List.length_map, List.length_take, List.length_drop]; omega
theorem mixed_get {by_ from_ : Int} {a : Ann} {i : Nat} (h : i < a.length) : (mixed by_ from_ a i)[i]? = some a[i].1 := by
  unfold mixed
  rw [List.getElem?_append_right (by simp; omega), List.length_map, List.length_take, Nat.min_eq_left (by omega), Nat.sub_self, List.getElem?_map, List.getElem?_drop]
  simp [h]
theorem mixed_next {by_ from_ : Int} {a : Ann} {i : Nat} (h : i < a.length) : mixed by_ from_ a (i + 1) = (mixed by_ from_ a i).set i (liftX by_ from_ a[i]) := by
  unfold mixed
  rw [take_snoc h, List.map_append, List.append_assoc, List.set_append_right _ _ (by simp; omega), List.length_map, List.length_take, Nat.min_eq_left (by omega), Nat.sub_self, List.drop_eq_getElem_cons h]
  rfl
theorem nodesV_set {l : List Node3} {i : Nat} (h : i < l.length) (x : Int) : (nodesV l).set (i * 3 + 1) (.int .i64 x) = nodesV (l.set i (l[i].1, x, l[i].2.2)) := by
  induction l generalizing i with
  | nil => simp at h
  | cons y l ih =>
    cases i with
    | zero => rw [List.set_cons_zero, nodesV_cons, nodesV_cons]; rfl
    | succ i =>
      have hi : i < l.length := by simpa using h
      have e : (i + 1) * 3 + 1 - (nodeV y).length = i * 3 + 1 := by simp [nodeV]; omega
      rw [List.set_cons_succ, nodesV_cons, nodesV_cons, List.set_append_right _ _ (by simp [nodeV]; omega), e, ih hi]
      rfl
theorem own_set {w : World} {B g n c : Nat} {l : List Node3} (hn : l.length = n) (h : w.ownsRow B 53 3 (.slice (some ⟨g, 0, none⟩) n c) n (nodesV l)) {i : Nat} (hi : i < l.length) (x : Int) :
    (w.setCell ⟨g, i * 3 + 1, none⟩ (.int .i64 x)).ownsRow B 53 3 (.slice (some ⟨g, 0, none⟩) n c) n (nodesV (l.set i (l[i].1, x, l[i].2.2))) := by
  rcases h.2 with ⟨e, _⟩ | ⟨g', cap, cur, e, hB, hg, h1, h2, h3, h4⟩
  · cases e
  · cases e
    refine ⟨by rw [nodesV_len, List.length_set, hn], .inr ⟨g, c, cur.setIfInBounds (i * 3 + 1) (.int .i64 x), rfl, hB, ?_, h1, h2, by simpa using h3, ?_⟩⟩
    · simp [World.setCell, Array.getElem?_modify, hg]
    · rw [← nodesV_set hi, ← h4, Array.toList_setIfInBounds, List.take_set]
theorem own_cell {w : World} {B g n c : Nat} {l : List Node3} (h : w.ownsRow B 53 3 (.slice (some ⟨g, 0, none⟩) n c) n (nodesV l)) (i : Nat) {x : Node3} (hx : l[i]? = some x) : w.cell? ⟨g, i * 3 + 1, none⟩ = some (.int .i64 x.2.1) := by
  have hi := (List.getElem?_eq_some_iff.1 hx).1
  have hh := (own_holds h).cell (nodesV_get1 hi)
  rw [Nat.zero_add] at hh
  rw [hh]
  have : l[i] = x := by rw [List.getElem?_eq_getElem hi] at hx; exact Option.some.inj hx
  rw [this]
theorem own_free {w : World} {B g n c e sz : Nat} {xs : List Value} (h : w.ownsRow B e sz (.slice (some ⟨g, 0, none⟩) n c) n xs) (i : Nat) : w.frozen? ⟨g, i, none⟩ = false := by
  rcases h.2 with ⟨e, _⟩ | ⟨g', cap, cur, e, hB, hg, _⟩
  · cases e
  · cases e
    simp [World.frozen?, hg]

/-- The state of lifted's visitor. -/
structure LiftIn (by_ from_ : Int) (a : Ann) (n c' : Nat) (go bf bo bb : Nat) (i : Nat) (F : Nat → Prop) (W : World) : Prop where
  blk : ∀ k, F k ↔ k = go
  own : W.ownsRow 0 53 3 (.slice (some ⟨go, 0, none⟩) n c') n (nodesV (mixed by_ from_ a i))
  cf : W.cell? ⟨bf, 0, none⟩ = some (.int .i64 from_)
  co : W.cell? ⟨bo, 0, none⟩ = some (.slice (some ⟨go, 0, none⟩) n c')
  cb : W.cell? ⟨bb, 0, none⟩ = some (.int .i64 by_)
theorem lifted1_skip (from_ : Int) (i : Nat) (v : Int) (bf bo bb : Nat) (W : World) (hv : v < from_) (cf : W.cell? ⟨bf, 0, none⟩ = some (.int .i64 from_)) :
    Calls Tryd.prog 79 #[.int .i64 (i : Int), .int .i64 v, .pointer (some ⟨bf, 0, none⟩), .pointer (some ⟨bo, 0, none⟩), .pointer (some ⟨bb, 0, none⟩)] W (fun e W' => e = .returned (.tuple #[]) ∧ W = W') := by
  have h1 : ¬ from_ ≤ v := by omega
  go_enter Tryd.func79, Tryd.ntmps79
  go_wp2_with fail
  go_end0
  exact ⟨rfl, rfl⟩
set_option maxHeartbeats 1000000 in
theorem lifted1_take (by_ from_ : Int) (go n c' : Nat) (i : Nat) (v A1 : Int) (bf bo bb : Nat) (W : World) (hv : from_ ≤ v) (cf : W.cell? ⟨bf, 0, none⟩ = some (.int .i64 from_)) (co : W.cell? ⟨bo, 0, none⟩ = some (.slice (some ⟨go, 0, none⟩) n c'))
    (hi : i < n) (cb : W.cell? ⟨bb, 0, none⟩ = some (.int .i64 by_)) (r1 : W.cell? ⟨go, i * 3 + 1, none⟩ = some (.int .i64 A1)) (f1 : W.frozen? ⟨go, i * 3 + 1, none⟩ = false) (h0 : 0 ≤ A1) (h2 : A1 + by_ ≤ 1048576) (h3 : 0 ≤ by_) :
    Calls Tryd.prog 79 #[.int .i64 (i : Int), .int .i64 v, .pointer (some ⟨bf, 0, none⟩), .pointer (some ⟨bo, 0, none⟩), .pointer (some ⟨bb, 0, none⟩)] W (fun e W' => e = .returned (.tuple #[]) ∧ W' = (W.setCell ⟨go, i * 3 + 1, none⟩ (.int .i64 (A1 + by_))).drew) := by
  go_enter Tryd.func79, Tryd.ntmps79
  go_wp2_with fail
  go_region
  go_end0
  exact ⟨rfl, rfl⟩
theorem set_same {α : Type} {l : List α} {i : Nat} {x : α} (h : l[i]? = some x) : l.set i x = l := by
  obtain ⟨hi, rfl⟩ := List.getElem?_eq_some_iff.1 h
  exact List.set_getElem_self hi
theorem lifted_vis (by_ from_ : Int) (a : Ann) (n c' : Nat) (go bf bo bb B0 : Nat) (hal : a.length = n) (hok : ∀ x ∈ a, holdsN x.1) (h1 : bf < B0) (h2 : bo < B0) (h3 : bb < B0) (h4 : bf ≠ go) (h5 : bo ≠ go) (h6 : bb ≠ go) (hb0 : 0 ≤ by_)
    (hby : ∀ x ∈ a, 0 ≤ freeN x.1 x.2 → from_ ≤ freeN x.1 x.2 → x.1.2.1 + by_ ≤ 1048576) :
    FVis 79 #[.pointer (some ⟨bf, 0, none⟩), .pointer (some ⟨bo, 0, none⟩), .pointer (some ⟨bb, 0, none⟩)] a B0 (LiftIn by_ from_ a n c' go bf bo bb) := by
  have same : ∀ i (hi : i < a.length), ¬ (0 ≤ freeN a[i].1 a[i].2 ∧ from_ ≤ freeN a[i].1 a[i].2) → mixed by_ from_ a (i + 1) = mixed by_ from_ a i := fun i hi hn => by
    rw [mixed_next hi]
    have : liftX by_ from_ a[i] = a[i].1 := by unfold liftX; rw [if_neg hn]
    rw [this]
    exact set_same (mixed_get hi)
  refine ⟨fun args w => by simp [go_sem], fun i F W h k hk => by rw [(h.blk k).1 hk]; exact (World.ownsRow.lt h.own _ rfl).2, fun i F W W' h ho => ?_, fun i F W hi hv h => ?_, fun i F W hi hv h => ?_⟩
  · refine ⟨h.blk, ⟨h.own.1, h.own.2.imp id ?_⟩, ?_, ?_, ?_⟩
    · rintro ⟨g, cap, cur, e, hB, hg, hr⟩
      cases e
      exact ⟨go, c', cur, rfl, hB, (ho.block go (World.ownsRow.lt h.own _ rfl).2 fun hh => hh.2 ((h.blk go).2 rfl)).trans hg, hr⟩
    · exact (ho.cell (p := ⟨bf, 0, none⟩) (World.block_lt_of_cell? _ _ h.cf) (by simp only; omega)).trans h.cf
    · exact (ho.cell (p := ⟨bo, 0, none⟩) (World.block_lt_of_cell? _ _ h.co) (by simp only; omega)).trans h.co
    · exact (ho.cell (p := ⟨bb, 0, none⟩) (World.block_lt_of_cell? _ _ h.cb) (by simp only; omega)).trans h.cb
  · by_cases hf : freeN a[i].1 a[i].2 < from_
    · refine (lifted1_skip from_ i _ bf bo bb W hf h.cf).mono fun e W' ⟨he, hw⟩ => ⟨he, F, ?_, ?_, fun _ h => .inl h⟩
      · subst hw
        exact ⟨h.blk, by rw [same i hi (by omega)]; exact h.own, h.cf, h.co, h.cb⟩
      · subst hw; exact Only.refl _ _
    · have hmem := List.getElem_mem hi
      have hx := holds_a (hok _ hmem)
      refine (lifted1_take by_ from_ go n c' i _ _ bf bo bb W (by omega) h.cf h.co (by omega) h.cb (own_cell h.own i (mixed_get hi)) (own_free h.own _) hx.1 (hby _ hmem hv (by omega)) hb0).mono fun e W' ⟨he, hw⟩ => ?_
      have ho : Only F W W' := by
        rw [hw]
        exact ((Only.refl F W).set_ (.inl ((h.blk go).2 rfl)) _ _).drew
      refine ⟨he, F, ⟨h.blk, ?_, (ho.cell (p := ⟨bf, 0, none⟩) (World.block_lt_of_cell? _ _ h.cf) (fun hh => h4 ((h.blk _).1 hh))).trans h.cf, (ho.cell (p := ⟨bo, 0, none⟩) (World.block_lt_of_cell? _ _ h.co) (fun hh => h5 ((h.blk _).1 hh))).trans h.co,
        (ho.cell (p := ⟨bb, 0, none⟩) (World.block_lt_of_cell? _ _ h.cb) (fun hh => h6 ((h.blk _).1 hh))).trans h.cb⟩, ho, fun _ h => .inl h⟩
      have hil : i < (mixed by_ from_ a i).length := by rw [mixed_len]; exact hi
      have hg : (mixed by_ from_ a i)[i] = a[i].1 := by
        have := mixed_get (by_ := by_) (from_ := from_) hi
        rw [List.getElem?_eq_getElem hil] at this
        exact Option.some.inj this
      have hs := own_set (by rw [mixed_len, hal]) h.own hil (a[i].1.2.1 + by_)
      rw [hg] at hs
      rw [mixed_next hi, hw]
      unfold liftX
      rw [if_pos ⟨hv, by omega⟩]
      exact hs
  · exact ⟨h.blk, by rw [same i hi (by omega)]; exact h.own, h.cf, h.co, h.cb⟩
set_option maxHeartbeats 1000000 in
theorem lifted_any (A : Option Addr) (n c : Nat) (t : List Node3) (by_ from_ : Int) (a : Ann) (e0 : Node3) (w : World) (hn : t.length = n) (hs : Slice A n c) (h0 : 0 < n) (hnb : n ≤ 100000) (hA : Holds w A (nodesV t)) (hL : Lim w) (hW : W t (0, 0, 0) [⟨0, 0⟩] = some (a, [], e0)) (hb0 : 0 ≤ by_)
    (hby : ∀ x ∈ a, 0 ≤ freeN x.1 x.2 → from_ ≤ freeN x.1 x.2 → x.1.2.1 + by_ ≤ 1048576) :
    Calls Tryd.prog 55 #[.slice A n c, .int .i64 by_, .int .i64 from_] w (NewN n (a.map (liftX by_ from_)) w) := by
  have hmf : ∀ (fn : Fn) (first cap : Array Value) (w : World), (Instr.makeFunc fn first cap).run Tryd.prog w = .ok (.func fn first cap) w := fun _ _ _ _ => rfl
  have hrow := (W_row _ _ _ _ _ _ hW).1
  rw [List.append_nil] at hrow
  have hal : a.length = n := by rw [← hn, hrow, List.length_map]
  obtain ⟨w2, hw2⟩ : ∃ w2, w2 = (w.alloc (.cells #[.int .i64 by_] 3)).alloc (.cells #[.int .i64 from_] 3) := ⟨_, rfl⟩
  have hb2 : Below w.heap.size w w2 := by rw [hw2]; exact ((Below.refl _ _).alloc (Nat.le_refl _) _).alloc (by simp) _
  have hz : w2.heap.size = w.heap.size + 1 + 1 := by rw [hw2]; simp
  have x1 : Whole w2 w.heap.size #[.int .i64 by_] 3 := by
    rw [hw2]
    exact (Whole.new w _ _).below ((Below.refl _ _).alloc (Nat.le_refl _) _) (by simp)
  have x2 : Whole w2 (w.heap.size + 1) #[.int .i64 from_] 3 := by
    rw [hw2]
    have := Whole.new (w.alloc (.cells #[.int .i64 by_] 3)) #[.int .i64 from_] 3
    rwa [World.size_alloc] at this
  have HCL := Lib.hid (tclone_any A n c t w2 hn hs (hA.below hb2) (by omega))
  have HREST := Lib.hid (show ∀ w3 go c', OwnN w3 w2.heap.size (.slice (some ⟨go, 0, none⟩) n c') n t → Below w2.heap.size w2 w3 → Calls Tryd.prog 59 #[.slice A n c, .func (.func 79) #[] #[.pointer (some ⟨w.heap.size + 1, 0, none⟩), .pointer (some ⟨w3.heap.size, 0, none⟩), .pointer (some ⟨w.heap.size, 0, none⟩)]]
      (w3.alloc (.cells #[.slice (some ⟨go, 0, none⟩) n c'] 23)) fun e w' => e = .returned (.tuple #[]) ∧ w'.cell? ⟨w3.heap.size, 0, none⟩ = some (.slice (some ⟨go, 0, none⟩) n c') ∧ OwnN w' w.heap.size (.slice (some ⟨go, 0, none⟩) n c') n (a.map (liftX by_ from_)) ∧ Below w.heap.size w w' from fun w3 go c' hown hb3 => by
    have hgo := (World.ownsRow.lt hown _ rfl)
    simp only at hgo
    have hb4 : Below w3.heap.size w3 (w3.alloc (.cells #[.slice (some ⟨go, 0, none⟩) n c'] 23)) := (Below.refl _ _).alloc (Nat.le_refl _) _
    have hb24 := below_step hb3 (hb4)
    have hb : Below w.heap.size w (w3.alloc (.cells #[.slice (some ⟨go, 0, none⟩) n c'] 23)) := below_step hb2 hb24
    have hs3 := hb3.size
    have hown0 : (w3.alloc (.cells #[.slice (some ⟨go, 0, none⟩) n c'] 23)).ownsRow 0 53 3 (.slice (some ⟨go, 0, none⟩) n c') n (nodesV (mixed by_ from_ a 0)) := by
      have h1 := (own_base hown (Nat.zero_le _)).alloc (.cells #[.slice (some ⟨go, 0, none⟩) n c'] 23)
      unfold mixed
      simpa [← hrow] using h1
    have hv := lifted_vis by_ from_ a n c' go (w.heap.size + 1) w3.heap.size w.heap.size (w3.heap.size + 1) hal (W_holds _ _ _ _ _ _ hW) (by omega) (by omega) (by omega) (by omega) (by omega) (by omega) hb0 hby
    have hAlt : ∀ b o, A = some ⟨b, o, none⟩ → b < w.heap.size := fun b o e => by
      obtain ⟨b', o', e', hb, _⟩ := hA.at_ (by rw [nodesV_len]; omega)
      rw [e] at e'; cases e'; exact hb
    have hlp := hL.pos
    have := frees_any (LiftIn by_ from_ a n c' go (w.heap.size + 1) w3.heap.size w.heap.size) (fun k => k = go) A n c t a e0 _ _ (w3.alloc (.cells #[.slice (some ⟨go, 0, none⟩) n c'] 23)) (by rw [World.size_alloc]; exact hv) hn h0 hnb (hA.below hb) (hL.next hb) hW
      ⟨fun _ => Iff.rfl, hown0, (x2.below hb24 (by omega)).cell 0, (Whole.new w3 _ _).cell 0, (x1.below hb24 (by omega)).cell 0⟩ (fun b o e hb => by have := hAlt b o e; omega) (by omega)
    refine this.mono fun e w' ⟨he, F', hin, ho, _⟩ => ⟨he, hin.co, ?_, hb.trans (ho.below (by simp; omega) fun k hk e => by omega)⟩
    have h2 := hin.own
    unfold mixed at h2
    rw [List.take_length, List.drop_length, List.map_nil, List.append_nil] at h2
    refine ⟨h2.1, h2.2.imp id ?_⟩
    rintro ⟨g, cap, cur, e, _, hr⟩
    cases e
    exact ⟨go, c', cur, rfl, by omega, hr⟩)
  have HN := Lib.hid hn
  clear hA hL hb2 hz x1 x2 hrow hal hs hW hby hb0 hn
  go_enter Tryd.func55, Tryd.ntmps55
  go_wp2_with fail
  rw [← hw2]
  clear hw2
  refine (HCL.out).mono ?_
  rintro e w3 ⟨A1, c1, rfl, hown, hb3⟩
  obtain ⟨A1', c1', e1, hs1, hA1⟩ := own_slice hown
  cases e1
  obtain ⟨go, oo, rfl, hgo, _⟩ := (own_holds hown).at_ (by rw [nodesV_len, HN.out]; omega)
  obtain rfl : oo = 0 := (hA1 _ _ rfl).2.2
  have hfr := HREST.out w3 go c1 hown hb3
  have HFR := Lib.hid hfr
  clear hfr hown hb3 hs1 hA1 hgo HREST HCL
  go_wp2_with fail
  refine (HFR.out).mono ?_
  rintro e w4 ⟨rfl, co, hown4, hb4⟩
  have H1 := Lib.hid hown4
  have H2 := Lib.hid hb4
  clear hown4 hb4
  go_wp2_with fail
  go_ret
  exact ⟨_, _, rfl, H1.out, H2.out⟩
end Go.Proofs.YtkkkblghihheeaaDoor
