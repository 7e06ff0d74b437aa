/- term.freeOf, term.frees: the free variables, visited. -/
import Derived.Test.YtkkkblghihheeaaDoorTEnd
namespace Go.Proofs.YtkkkblghihheeaaDoor
open Go.RowKit

/-- The free variable that a node is under so many binders; below 0: none. -/
def freeN (n : Node3) (k : Nat) : Int := if n.1 = 1 then n.2.1 - k else -1
theorem freeOf_any (n : Node3) (k : Nat) (w : World) (hn : holdsN n) (hk : k ≤ 1000000000) :
    Calls Tryd.prog 66 #[nodeA n, .int .i64 (k : Int)] w fun e w' => e = .returned (.int .i64 (freeN n k)) ∧ Below w.heap.size w w' := by
  have ha := holds_a hn
  obtain ⟨o, A, B⟩ := n
  unfold freeN
  simp only at ha ⊢
  clear hn
  by_cases h : o = 1
  · rw [if_pos h]
    subst h
    go_enter Tryd.func66, Tryd.ntmps66
    go_wp2_with fail
    go_ret
    exact ⟨rfl, (Below.refl _ _).alloc (Nat.le_refl _) _⟩
  · rw [if_neg h]
    have h1 : (o != 1) = true := by simpa using h
    go_enter Tryd.func66, Tryd.ntmps66
    go_wp2_with fail
    go_ret
    exact ⟨rfl, (Below.refl _ _).alloc (Nat.le_refl _) _⟩
/-- A visitor of the free variables. -/
structure FVis (Vf : FuncId) (cap : Array Value) (a : Ann) (B0 : Nat) (I : Nat → (Nat → Prop) → World → Prop) : Prop where
  enters : ∀ args w, (callFunc Vf args).run Tryd.prog w = .ok (.enter Vf args) w
  lt : ∀ i F W, I i F W → ∀ k, F k → k < W.heap.size
  abide : ∀ i F W W', I i F W → Only (fun k => B0 ≤ k ∧ ¬ F k) W W' → I i F W'
  call : ∀ i F W (h : i < a.length), 0 ≤ freeN a[i].1 a[i].2 → I i F W → Calls Tryd.prog Vf (#[.int .i64 (i : Int), .int .i64 (freeN a[i].1 a[i].2)] ++ cap) W
    (fun e W' => e = .returned (.tuple #[]) ∧ ∃ F', I (i + 1) F' W' ∧ Only F W W' ∧ ∀ k, F' k → F k ∨ W.heap.size ≤ k)
  skip : ∀ i F W (h : i < a.length), freeN a[i].1 a[i].2 < 0 → I i F W → I (i + 1) F W
/-- What is around a visitor of the free variables. -/
structure FIn (I : Nat → (Nat → Prop) → World → Prop) (A : Option Addr) (n c : Nat) (t : List Node3) (Vf : FuncId) (cap : Array Value) (bt bv : Nat) (i : Nat) (F : Nat → Prop) (W : World) : Prop where
  inv : I i F W
  nt : ¬ F bt
  nv : ¬ F bv
  na : ∀ b o, A = some ⟨b, o, none⟩ → ¬ F b
  ct : W.cell? ⟨bt, 0, none⟩ = some (.slice A n c)
  cv : W.cell? ⟨bv, 0, none⟩ = some (.func (.func Vf) #[] cap)
  row : Holds W A (nodesV t)
theorem FIn.next {I : Nat → (Nat → Prop) → World → Prop} {A : Option Addr} {n c : Nat} {t : List Node3} {Vf : FuncId} {cap : Array Value} {bt bv i : Nat} {F F' : Nat → Prop} {W W' : World} (h : FIn I A n c t Vf cap bt bv i F W) (ht : 0 < t.length) (hI : I (i + 1) F' W') (ho : Only F W W') (hg : ∀ k, F' k → F k ∨ W.heap.size ≤ k) : FIn I A n c t Vf cap bt bv (i + 1) F' W' := by
  have l1 := World.block_lt_of_cell? _ _ h.ct
  have l2 := World.block_lt_of_cell? _ _ h.cv
  simp only at l1 l2
  refine ⟨hI, fun hf => ?_, fun hf => ?_, fun b o e hf => ?_, (ho.cell (p := ⟨bt, 0, none⟩) l1 h.nt).trans h.ct, (ho.cell (p := ⟨bv, 0, none⟩) l2 h.nv).trans h.cv, h.row.only ho h.na⟩
  · rcases hg _ hf with h' | h'
    · exact h.nt h'
    · omega
  · rcases hg _ hf with h' | h'
    · exact h.nv h'
    · omega
  · obtain ⟨b', o', e', hb, _⟩ := h.row.at_ (by rw [nodesV_len]; omega)
    rw [e] at e'
    cases e'
    rcases hg _ hf with h' | h'
    · exact h.na b o e h'
    · omega
set_option maxHeartbeats 2000000 in
theorem frees1_any (I : Nat → (Nat → Prop) → World → Prop) (A : Option Addr) (n c : Nat) (t : List Node3) (a : Ann) (Vf : FuncId) (cap : Array Value) (B0 bt bv i : Nat) (F : Nat → Prop) (W : World) (V : FVis Vf cap a B0 I) (hi : i < a.length) (hn : t.length = n) (hin : i < n) (hnb : n ≤ 100000) (hti : t[i] = a[i].1)
    (hok : holdsN a[i].1) (hk : a[i].2 ≤ 1000000000) (_hbb : B0 ≤ bt) (h : FIn I A n c t Vf cap bt bv i F W) :
    Calls Tryd.prog 80 #[.int .i64 (i : Int), .int .i64 ((a[i].2 : Nat) : Int), .pointer (some ⟨bt, 0, none⟩), .pointer (some ⟨bv, 0, none⟩)] W
      (fun e W' => e = .returned (.tuple #[]) ∧ ∃ F', FIn I A n c t Vf cap bt bv (i + 1) F' W' ∧ Only F W W' ∧ ∀ k, F' k → F k ∨ W.heap.size ≤ k) := by
  have hen := V.enters
  have hj : i < t.length := by omega
  obtain ⟨gA, oA, rfl, hgA, hcA⟩ := h.row.at_ (by rw [nodesV_len]; omega)
  have r0 := hcA (i * 3) _ (nodesV_get0 hj)
  have r1 := hcA (i * 3 + 1) _ (nodesV_get1 hj)
  have r2 := hcA (i * 3 + 2) _ (nodesV_get2 hj)
  rw [← Nat.add_assoc] at r1 r2
  rw [hti] at r0 r1 r2
  have ct := h.ct
  have cv := h.cv
  have lv := World.block_lt_of_cell? _ _ cv
  simp only at lv
  have HA := Lib.hid fun W => freeOf_any a[i].1 a[i].2 W hok hk
  have HC := Lib.hid fun F W => V.call i F W hi
  have HS := Lib.hid fun F W => V.skip i F W hi
  have HAB := Lib.hid (V.abide i)
  clear hcA hti hok
  generalize a[i] = x at *
  obtain ⟨⟨o, A1, B1⟩, k⟩ := x
  obtain ⟨v, hv⟩ : ∃ v, freeN (o, A1, B1) k = v := ⟨_, rfl⟩
  simp only at r0 r1 r2
  rw [show freeN ((o, A1, B1), k).1 ((o, A1, B1), k).2 = v from hv] at HC HS
  rw [show freeN ((o, A1, B1), k).1 ((o, A1, B1), k).2 = v from hv] at HA
  have HH := Lib.hid h
  clear h hv V hj
  go_enter Tryd.func80, Tryd.ntmps80
  go_wp2_with fail
  refine (HA.out W).mono ?_
  rintro e w1 ⟨rfl, hb⟩
  have cv1 := (hb.cell (p := ⟨bv, 0, none⟩) lv).trans cv
  have hI1 := HAB.out F W w1 HH.out.inv (Only.of_below hb)
  have on1 : Only F W w1 := Only.of_below hb
  have HI1 := Lib.hid hI1
  have HB := Lib.hid hb
  clear hb hI1 ct cv r0 r1 r2
  by_cases h0 : 0 ≤ v
  · have HCV := Lib.hid (HC.out F w1 h0 HI1.out)
    clear HC HS
    go_wp2_with fail
    refine (HCV.out).mono ?_
    rintro e w2 ⟨rfl, F', hI2, on2, hg2⟩
    have ho := on1.trans on2 (fun _ _ h => h)
    have HO := Lib.hid ho
    have HI2 := Lib.hid hI2
    have HG2 := Lib.hid hg2
    clear on1 ho hI2 on2 hg2
    go_wp2_with fail
    go_end0
    have hg : ∀ k, F' k → F k ∨ W.heap.size ≤ k := fun k hf => (HG2.out k hf).imp id fun h => Nat.le_trans HB.out.size h
    exact ⟨rfl, F', HH.out.next (by omega) HI2.out HO.out hg, HO.out, hg⟩
  · have HSV := Lib.hid (HS.out F w1 (by omega) HI1.out)
    clear HC HS
    go_wp2_with fail
    go_end0
    exact ⟨rfl, F, HH.out.next (by omega) HSV.out on1 (fun _ h => .inl h), on1, fun _ h => .inl h⟩
/-- What frees answers. -/
def FreesPost (I : Nat → (Nat → Prop) → World → Prop) (F0 : Nat → Prop) (n : Nat) (w : World) (e : Ending) (w' : World) : Prop :=
  e = .returned (.tuple #[]) ∧ ∃ F', I n F' w' ∧ Only F0 w w' ∧ ∀ k, F' k → F0 k ∨ w.heap.size ≤ k
theorem frees_vis (I : Nat → (Nat → Prop) → World → Prop) (A : Option Addr) (n c : Nat) (t : List Node3) (a : Ann) (Vf : FuncId) (cap : Array Value) (B0 B1 bt bv : Nat) (V : FVis Vf cap a B0 I) (hn : t.length = n) (h0 : 0 < n) (hnb : n ≤ 100000) (e0 : Node3)
    (hW : W t (0, 0, 0) [⟨0, 0⟩] = some (a, [], e0)) (hB : B0 ≤ B1) (hbt : bt < B1) (hbv : bv < B1) (hbb : B0 ≤ bt) (hAB : ∀ b o, A = some ⟨b, o, none⟩ → b < B1) :
    Vis 80 #[.pointer (some ⟨bt, 0, none⟩), .pointer (some ⟨bv, 0, none⟩)] a 0 B1 (FIn I A n c t Vf cap bt bv) (fun _ _ => False) := by
  have hrow := W_row _ _ _ _ _ _ hW
  rw [List.append_nil] at hrow
  have hal : a.length = n := by rw [← hn, hrow.1, List.length_map]
  refine ⟨fun args w => by simp [go_sem], fun i F W h => V.lt i F W h.inv, fun i F W W' h ho => ?_, fun i F W hi h => ?_⟩
  · refine ⟨V.abide i F W W' h.inv (ho.mono fun k hk => ⟨by omega, hk.2⟩), h.nt, h.nv, h.na, ?_, ?_, ?_⟩
    · exact (ho.cell (p := ⟨bt, 0, none⟩) (World.block_lt_of_cell? _ _ h.ct) (by simp only; omega)).trans h.ct
    · exact (ho.cell (p := ⟨bv, 0, none⟩) (World.block_lt_of_cell? _ _ h.cv) (by simp only; omega)).trans h.cv
    · exact h.row.only ho fun b o e hb => by have := hAB b o e; omega
  · have hti : t[i]'(by omega) = a[i].1 := by
      have h1 : t[i]? = (a.map Prod.fst)[i]? := by rw [← hrow.1]
      rw [List.getElem?_eq_getElem (by omega), List.getElem?_map, List.getElem?_eq_getElem hi] at h1
      simpa using h1
    have hok : holdsN a[i].1 := W_holds _ _ _ _ _ _ hW _ (List.getElem_mem hi)
    have hk := W_bound _ _ _ _ _ _ 0 hW (by simp) _ (List.getElem_mem hi)
    have := frees1_any I A n c t a Vf cap B0 bt bv i F W V hi hn (by omega) hnb hti hok (by omega) hbb h
    rw [Nat.zero_add]
    exact this.mono fun e W' h => .inl h
set_option maxHeartbeats 1000000 in
theorem frees_any (I : Nat → (Nat → Prop) → World → Prop) (F0 : Nat → Prop) (A : Option Addr) (n c : Nat) (t : List Node3) (a : Ann) (e0 : Node3) (Vf : FuncId) (cap : Array Value) (w : World) (V : FVis Vf cap a w.heap.size I) (hn : t.length = n) (h0 : 0 < n) (hnb : n ≤ 100000)
    (hA : Holds w A (nodesV t)) (hL : Lim w) (hW : W t (0, 0, 0) [⟨0, 0⟩] = some (a, [], e0)) (hI : I 0 F0 w) (hFA : ∀ b o, A = some ⟨b, o, none⟩ → ¬ F0 b) (hF0 : ¬ F0 0) :
    Calls Tryd.prog 59 #[.slice A n c, .func (.func Vf) #[] cap] w (FreesPost I F0 a.length w) := by
  have hmf : ∀ (fn : Fn) (first cap : Array Value) (w : World), (Instr.makeFunc fn first cap).run Tryd.prog w = .ok (.func fn first cap) w := fun _ _ _ _ => rfl
  obtain ⟨w2, hw2⟩ : ∃ w2, w2 = (w.alloc (.cells #[.slice A n c] 23)).alloc (.cells #[.func (.func Vf) #[] cap] 64) := ⟨_, rfl⟩
  have hb2 : Below w.heap.size w w2 := by rw [hw2]; exact ((Below.refl _ _).alloc (Nat.le_refl _) _).alloc (by simp) _
  have hz : w2.heap.size = w.heap.size + 1 + 1 := by rw [hw2]; simp
  have x1 : Whole w2 w.heap.size #[.slice A n c] 23 := by
    rw [hw2]
    exact (Whole.new w _ _).below ((Below.refl _ _).alloc (Nat.le_refl _) _) (by simp)
  have x2 : Whole w2 (w.heap.size + 1) #[.func (.func Vf) #[] cap] 64 := by
    rw [hw2]
    have := Whole.new (w.alloc (.cells #[.slice A n c] 23)) #[.func (.func Vf) #[] cap] 64
    rwa [World.size_alloc] at this
  have c1 := x1.cell 0
  have c2 := x2.cell 0
  replace c1 : w2.cell? ⟨w.heap.size, 0, none⟩ = some (.slice A n c) := c1
  replace c2 : w2.cell? ⟨w.heap.size + 1, 0, none⟩ = some (.func (.func Vf) #[] cap) := c2
  have hlt : ∀ k, F0 k → k < w.heap.size := V.lt _ _ _ hI
  have hAlt : ∀ b o, A = some ⟨b, o, none⟩ → b < w.heap.size := fun b o e => by
    obtain ⟨b', o', e', hb, _⟩ := hA.at_ (by rw [nodesV_len]; omega)
    rw [e] at e'; cases e'; exact hb
  have hin : FIn I A n c t Vf cap w.heap.size (w.heap.size + 1) 0 F0 w2 := ⟨V.abide _ _ _ _ hI (Only.of_below hb2), fun hf => by have := hlt _ hf; omega, fun hf => by have := hlt _ hf; omega, hFA, c1, c2, hA.below hb2⟩
  have hv := frees_vis I A n c t a Vf cap w.heap.size w2.heap.size w.heap.size (w.heap.size + 1) V hn h0 hnb e0 hW (by omega) (by omega) (by omega) (Nat.le_refl _) (fun b o e => by have := hAlt b o e; omega)
  have hwk := walk_any A n c t 0 a [] (0, 0, 0) e0 _ _ _ _ F0 w2 hn hnb (hA.below hb2) (hL.next hb2) (Nat.zero_le _) hW hin hFA hF0 hv
  have HWK := Lib.hid hwk
  have HB2 := Lib.hid hb2
  clear hn hA hL hI hFA hF0 hb2 hz x1 x2 hlt hAlt hin hv hwk hW V c2 h0
  go_enter Tryd.func59, Tryd.ntmps59
  go_wp2_with fail
  rw [← hw2]
  clear hw2 c1
  refine (HWK.out).mono ?_
  rintro e w3 (⟨rfl, F', hin, ho, hg⟩ | ⟨_, _, hf⟩)
  · have H1 := Lib.hid hin
    have H2 := Lib.hid ho
    have H3 := Lib.hid hg
    clear hin ho hg
    go_wp2_with fail
    go_end0
    refine ⟨rfl, F', H1.out.inv, (Only.of_below (F := F0) HB2.out).trans H2.out (fun _ _ h => h), fun k hf => (H3.out k hf).imp id fun h => Nat.le_trans HB2.out.size h⟩
  · exact hf.elim
end Go.Proofs.YtkkkblghihheeaaDoor
