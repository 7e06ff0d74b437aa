/- The way to the laws of books: TCaught to TRegion2. -/
import Derived.Test.YtfeodppdmbideaaGreatDoorBA3
import Derived.Test.YtfeodppdmbideaaGreatDoorBA4
import Derived.Defers
import Derived.Recover
namespace Go.Proofs.YtfeodppdmbideaaGreatDoor
open Go.RowKit

theorem catch_idle (p : Addr) (w : World) :
    CallsD Tryz.prog 179 #[.pointer (some p)] .returning w fun e u' w' => e = .returned (.tuple #[]) ∧ u' = .returning ∧ w' = w := by
  refine callsD_of_wpS Tryz.func179 rfl fun c₀ cs hu => ?_
  apply wpS_seq
  apply wpS_region
  simp [wpOpsS, go_sem, recoverD, hu, Tryz.ntmps179, Exit.thenS]
  refine wpS_of_wp ?_
  change Code.wp _ _ _ { tmps := #[.pointer (some p), .nilIface, undef, undef, .nilIface, undef, undef, undef, undef, undef, undef, undef, undef, undef, undef, undef], defers := [] } _
  go_wp2_with fail
  cases c₀
  simp_all [bodyPostS, results, Tryz.results179]
theorem assert_fault (f : Int) (w : World) : (Instr.typeAssert (.iface 201 (.int .i64 f)) 20 201 true).run Tryz.prog w = .ok (.tuple #[.int .i64 f, .bool true]) w := by kernel_rfl
set_option maxRecDepth 100000 in
theorem catch_panicking (p : Addr) (f : Int) (w : World) (hc : w.cell? p = some (.int .i64 0)) (hz : w.frozen? p = false) :
    CallsD Tryz.prog 179 #[.pointer (some p)] (.panicking (faultP f)) w fun e u' w' => e = .returned (.tuple #[]) ∧ u' = .panicking [{ v := .iface 201 (.int .i64 f), recovered := true }] ∧ w' = w.setCell p (.int .i64 f) := by
  refine callsD_of_wpS Tryz.func179 rfl fun c₀ cs hu => ?_
  unfold faultP at hu
  apply wpS_seq
  apply wpS_region
  simp [wpOpsS, go_sem, recoverD, hu, Tryz.ntmps179, Exit.thenS]
  refine wpS_of_wp ?_
  have HU := Lib.hid hu
  have hta := assert_fault f
  clear hu
  change Code.wp _ _ _ { tmps := #[.pointer (some p), .iface 201 (.int .i64 f), undef, undef, .iface 201 (.int .i64 f), undef, undef, undef, undef, undef, undef, undef, undef, undef, undef, undef], defers := [] } _
  go_wp2_with fail
  cases c₀
  have hu := HU.out
  simp_all [bodyPostS, results, Tryz.results179]

/-- The cell of the answer. -/
abbrev resW (w : World) : World := w.alloc (.cells #[.int .i64 0] 31)
/-- What caught answers. -/
def CaughtPost (w : World) (R1 : World → Prop) (R2 : Int → World → Prop) (e : Ending) (w' : World) : Prop :=
  ∃ f W', e = .returned (.int .i64 f) ∧ ((f = 0 ∧ R1 W') ∨ R2 f W') ∧ Whole W' w.heap.size #[.int .i64 0] 31 ∧ w' = W'.setCell ⟨w.heap.size, 0, none⟩ (.int .i64 f)
set_option maxHeartbeats 1000000 in
theorem caught_any (D : FuncId) (cap : Array Value) (w : World) (R1 : World → Prop) (R2 : Int → World → Prop) (hen : ∀ args w, (callFunc D args).run Tryz.prog w = .ok (.enter D args) w)
    (hdo : Calls Tryz.prog D cap (resW w) fun e W' => Whole W' w.heap.size #[.int .i64 0] 31 ∧ ((e = .returned (.tuple #[]) ∧ R1 W') ∨ ∃ f, e = .panicked (faultP f) ∧ R2 f W')) :
    Calls Tryz.prog 135 #[.func (.func D) #[] cap] w (CaughtPost w R1 R2) := by
  have hmf : ∀ (fn : Fn) (first cap : Array Value) (w : World), (Instr.makeFunc fn first cap).run Tryz.prog w = .ok (.func fn first cap) w := fun _ _ _ _ => rfl
  go_enter_defers Tryz.func135, Tryz.ntmps135
  go_wp2_with fail
  have HDO := Lib.hid hdo
  clear hdo
  refine (HDO.out).mono ?_
  rintro e W' ⟨hwh, ⟨rfl, h1⟩ | ⟨f, rfl, h2⟩⟩
  · have c0 := hwh.cell 0
    have f0 := hwh.frozen 0
    replace c0 : W'.cell? ⟨w.heap.size, 0, none⟩ = some (.int .i64 0) := c0
    have c1 := (hwh.set_ 0 (.int .i64 0)).cell 0
    have HW := Lib.hid hwh
    have HC1 := Lib.hid c1
    clear hwh c1
    go_wp2_with fail
    refine leaves_cons (f := 179) (args := #[.pointer (some ⟨w.heap.size, 0, none⟩)]) (by simp) (by simp [go_sem]) ?_
    refine (catch_idle ⟨w.heap.size, 0, none⟩ _).mono ?_
    rintro e u' w'' ⟨rfl, rfl, rfl⟩
    simp [Leaves, settle, results, Tryz.results135, go_sem]
    have c1 := HC1.out
    refine ⟨_, by rw [c1]; rfl, 0, W', rfl, .inl ⟨rfl, h1⟩, HW.out, rfl⟩
  · have c1 := (hwh.set_ 0 (.int .i64 f)).cell 0
    go_wp2_with fail
    refine leaves_cons (f := 179) (args := #[.pointer (some ⟨w.heap.size, 0, none⟩)]) (by simp) (by simp [go_sem]) ?_
    refine (catch_panicking ⟨w.heap.size, 0, none⟩ f _ (hwh.cell 0) (hwh.frozen 0)).mono ?_
    rintro e u' w'' ⟨rfl, rfl, rfl⟩
    simp [Leaves, settle, results, Tryz.results135, go_sem]
    refine ⟨_, by rw [c1]; rfl, f, W', rfl, .inr h2, hwh, rfl⟩

/-- The visitor that does nothing. -/
theorem vis_pass (a : Ann) (at0 B0 : Nat) : Vis 122 #[] a at0 B0 (fun _ F _ => ∀ k, ¬ F k) (fun _ _ => False) :=
  { enters := fun args w => by simp [go_sem]
    lt := fun _ _ _ h k hk => absurd hk (h k)
    abide := fun _ _ _ _ h _ => h
    call := fun i F W h hI => (pass_any _ _ _).mono fun e W' ⟨he, hw⟩ => by
      subst hw
      exact .inl ⟨he, F, hI, Only.refl _ _, fun _ h => .inl h⟩ }
/-- Where a term ends that begins at a place. -/
def endOf (t : List Node3) (at0 : Int) : Int := if at0 < 0 then -1 else match W (t.drop at0.toNat) (0, 0, 0) [⟨0, 0⟩] with
  | some x => at0 + x.1.length
  | none => -1
/-- A walk with pass. -/
theorem walk_pass (A : Option Addr) (n c : Nat) (t : List Node3) (at0 : Int) (w : World) (hn : t.length = n) (hnb : n ≤ 100000) (hA : Holds w A (nodesV t)) (hL : Lim w) (hat : I64 at0) :
    Calls Tryz.prog 121 #[.slice A n c, .int .i64 at0, .func (.func 122) #[] #[]] w fun e w' => Below w.heap.size w w' ∧
      ((∃ x, 0 ≤ at0 ∧ W (t.drop at0.toNat) (0, 0, 0) [⟨0, 0⟩] = some x ∧ endOf t at0 = at0 + x.1.length ∧ e = .returned (.int .i64 (endOf t at0))) ∨ (endOf t at0 = -1 ∧ e = .panicked (faultP 8))) := by
  unfold I64 at hat
  by_cases h : at0 < 0
  · refine (walk_neg A n c at0 _ w h).mono fun e w' ⟨he, hb⟩ => ⟨hb, .inr ⟨?_, he⟩⟩
    unfold endOf
    rw [if_pos h]
  · obtain ⟨j, rfl⟩ : ∃ j : Nat, at0 = j := ⟨at0.toNat, by omega⟩
    cases hW : W (t.drop j) (0, 0, 0) [⟨0, 0⟩] with
    | none =>
      refine (walk_none A n c t j (0, 0, 0) w hn hnb hA hL (by omega) hW).mono fun e w' ⟨he, hb⟩ => ⟨hb, .inr ⟨?_, he⟩⟩
      unfold endOf
      rw [if_neg h, Int.toNat_natCast, hW]
    | some x =>
      have hj : j ≤ n := by
        rcases Nat.lt_or_ge n j with h1 | h1
        · rw [List.drop_eq_nil_of_le (by omega)] at hW; cases hW
        · exact h1
      refine (walk_any A n c t j x.1 x.2.1 (0, 0, 0) x.2.2 122 #[] _ _ (fun _ => False) w hn hnb hA hL hj hW (fun _ h => h) (fun _ _ _ h => h) (fun h => h) (vis_pass _ _ _)).mono fun e w' hp => ?_
      rcases hp with ⟨he, F', _, ho, _⟩ | ⟨_, _, hf⟩
      · refine ⟨ho.below (Nat.le_refl _) fun _ _ h => h, .inl ⟨x, by omega, by rw [Int.toNat_natCast, hW], ?_, ?_⟩⟩
        · unfold endOf
          rw [if_neg h, Int.toNat_natCast, hW]
        · rw [he]
          unfold endOf
          rw [if_neg h, Int.toNat_natCast, hW]
          simp
      · exact hf.elim
end Go.Proofs.YtfeodppdmbideaaGreatDoor
namespace Go.Proofs.YtfeodppdmbideaaGreatDoor
open Go.RowKit

/-- What End's closure answers. -/
def End1Post (t : List Node3) (at0 : Int) (b3 : Nat) (W : World) (e : Ending) (W' : World) : Prop :=
  ∃ w', Below W.heap.size W w' ∧ ((e = .returned (.tuple #[]) ∧ W' = w'.setCell ⟨b3, 0, none⟩ (.int .i64 (endOf t at0))) ∨ (endOf t at0 = -1 ∧ e = .panicked (faultP 8) ∧ W' = w'))
set_option maxHeartbeats 1000000 in
theorem end1_any (A : Option Addr) (n c : Nat) (t : List Node3) (at0 : Int) (b1 b2 b3 : Nat) (W : World) (hn : t.length = n) (hnb : n ≤ 100000) (hA : Holds W A (nodesV t)) (hL : Lim W) (hat : I64 at0)
    (h1 : W.cell? ⟨b1, 0, none⟩ = some (.slice A n c)) (h2 : W.cell? ⟨b2, 0, none⟩ = some (.int .i64 at0)) (h3 : Whole W b3 #[.int .i64 (-1)] 3) :
    Calls Tryz.prog 136 #[.pointer (some ⟨b1, 0, none⟩), .pointer (some ⟨b2, 0, none⟩), .pointer (some ⟨b3, 0, none⟩)] W (End1Post t at0 b3 W) := by
  have HW := Lib.hid (walk_pass A n c t at0 W hn hnb hA hL hat)
  have H3 := Lib.hid h3
  have hlt := h3.lt
  clear hn hA hL hat h3
  go_enter Tryz.func136, Tryz.ntmps136
  go_wp2_with fail
  refine (HW.out).mono ?_
  rintro e w' ⟨hb, ⟨x, -, -, -, rfl⟩ | ⟨hx, rfl⟩⟩
  · have hh := (H3.out.below hb hlt)
    have c0 := hh.cell 0
    have f0 := hh.frozen 0
    replace c0 : w'.cell? ⟨b3, 0, none⟩ = some (.int .i64 (-1)) := c0
    have HB := Lib.hid hb
    clear hh hb h1 h2
    go_wp2_with fail
    go_end0
    exact ⟨w', HB.out, .inl ⟨rfl, rfl⟩⟩
  · have HB := Lib.hid hb
    clear hb h1 h2
    have HX := Lib.hid hx
    clear hx
    go_wp2_with fail
    exact ⟨rfl, w', HB.out, .inr ⟨HX.out, rfl, rfl⟩⟩
set_option maxHeartbeats 1000000 in
theorem end_any (A : Option Addr) (n c : Nat) (t : List Node3) (at0 : Int) (w : World) (hn : t.length = n) (hnb : n ≤ 100000) (hA : Holds w A (nodesV t)) (hL : Lim w) (hat : I64 at0) :
    Calls Tryz.prog 96 #[.slice A n c, .int .i64 at0] w fun e w' => e = .returned (.int .i64 (endOf t at0)) ∧ Below w.heap.size w w' := by
  have hmf : ∀ (fn : Fn) (first cap : Array Value) (w : World), (Instr.makeFunc fn first cap).run Tryz.prog w = .ok (.func fn first cap) w := fun _ _ _ _ => rfl
  obtain ⟨w3, hw3⟩ : ∃ w3, w3 = ((w.alloc (.cells #[.slice A n c] 28)).alloc (.cells #[.int .i64 at0] 3)).alloc (.cells #[.int .i64 (-1)] 3) := ⟨_, rfl⟩
  have hb3 : Below w.heap.size w w3 := by rw [hw3]; exact (((Below.refl _ _).alloc (Nat.le_refl _) _).alloc (by simp) _).alloc (by simp; omega) _
  have hz : w3.heap.size = w.heap.size + 1 + 1 + 1 := by rw [hw3]; simp
  have x1 : Whole w3 w.heap.size #[.slice A n c] 28 := by
    rw [hw3]
    exact ((Whole.new w _ _).below ((Below.refl _ _).alloc (Nat.le_refl _) _) (by simp)).below ((Below.refl _ _).alloc (Nat.le_refl _) _) (by simp; omega)
  have x2 : Whole w3 (w.heap.size + 1) #[.int .i64 at0] 3 := by
    rw [hw3]
    have := (Whole.new (w.alloc (.cells #[.slice A n c] 28)) #[.int .i64 at0] 3).below (((Below.refl _ _).alloc (Nat.le_refl _) (.cells #[.int .i64 (-1)] 3))) (by simp)
    rwa [World.size_alloc] at this
  have x3 : Whole w3 (w.heap.size + 1 + 1) #[.int .i64 (-1)] 3 := by
    rw [hw3]
    have := Whole.new ((w.alloc (.cells #[.slice A n c] 28)).alloc (.cells #[.int .i64 at0] 3)) #[.int .i64 (-1)] 3
    simpa using this
  have hr : Below w3.heap.size w3 (resW w3) := (Below.refl _ _).alloc (Nat.le_refl _) _
  have hdo := end1_any A n c t at0 w.heap.size (w.heap.size + 1) (w.heap.size + 1 + 1) (resW w3) hn hnb ((hA.below hb3).below hr) ((hL.next hb3).next hr) hat ((x1.below hr (by omega)).cell 0) ((x2.below hr (by omega)).cell 0) (x3.below hr (by omega))
  have hca := caught_any 136 #[.pointer (some ⟨w.heap.size, 0, none⟩), .pointer (some ⟨w.heap.size + 1, 0, none⟩), .pointer (some ⟨w.heap.size + 1 + 1, 0, none⟩)] w3
    (fun W' => Whole W' (w.heap.size + 1 + 1) #[.int .i64 (endOf t at0)] 3 ∧ Below w.heap.size w W') (fun _ W' => Whole W' (w.heap.size + 1 + 1) #[.int .i64 (endOf t at0)] 3 ∧ Below w.heap.size w W') (fun args w => by simp [go_sem]) (hdo.mono fun e W' ⟨w', hb, hp⟩ => by
      have y0 : Whole (resW w3) w3.heap.size #[.int .i64 0] 31 := Whole.new w3 _ _
      have y1 := y0.below hb y0.lt
      have y3 := (x3.below hr (by omega)).below hb (by simp; omega)
      have hbw : Below w.heap.size w w' := below_step hb3 (below_step hr hb)
      rcases hp with ⟨he, hW⟩ | ⟨hx, he, hW⟩
      · subst hW
        refine ⟨y1.keep (Below.heap_setCell _ _ _ _ (by simp only; omega)), .inl ⟨he, y3.set_ 0 _, hbw.setCell (by simp only; omega) _⟩⟩
      · subst hW
        refine ⟨y1, .inr ⟨8, he, ?_, hbw⟩⟩
        rw [hx]; exact y3)
  have HCA := Lib.hid hca
  have HB3 := Lib.hid hb3
  have HZ := Lib.hid hz
  clear hn hA hL hat hb3 hz x1 x2 x3 hr hdo hca
  go_enter Tryz.func96, Tryz.ntmps96
  go_wp2_with fail
  rw [← hw3]
  clear hw3
  refine (HCA.out).mono ?_
  rintro e w' ⟨f, W', rfl, hp, hwh, rfl⟩
  have hp' : Whole W' (w.heap.size + 1 + 1) #[.int .i64 (endOf t at0)] 3 ∧ Below w.heap.size w W' := hp.elim (fun h => h.2) id
  have x := hp'.1.keep (w' := W'.setCell ⟨w3.heap.size, 0, none⟩ (.int .i64 f)) (Below.heap_setCell _ _ _ _ (by have := HZ.out; simp only; omega))
  have c0 := x.cell 0
  have hb := hp'.2.setCell (p := ⟨w3.heap.size, 0, none⟩) (by have := HZ.out; simp only; omega) (.int .i64 f)
  replace c0 : (W'.setCell ⟨w3.heap.size, 0, none⟩ (.int .i64 f)).cell? ⟨w.heap.size + 1 + 1, 0, none⟩ = some (.int .i64 (endOf t at0)) := c0
  have HB := Lib.hid hb
  clear hp hp' x hb hwh
  go_wp2_with fail
  go_ret
  exact ⟨rfl, HB.out⟩
/-- Shape's answer. -/
def shapeOf (t : List Node3) : Int := if 4096 < t.length then 9 else if endOf t 0 = t.length then 0 else 8
theorem shape_any (A : Option Addr) (n c : Nat) (t : List Node3) (w : World) (hn : t.length = n) (hA : Holds w A (nodesV t)) (hL : Lim w) :
    Calls Tryz.prog 51 #[.slice A n c] w fun e w' => e = .returned (.int .i64 (shapeOf t)) ∧ Below w.heap.size w w' := by
  unfold shapeOf
  rw [hn]
  by_cases h : 4096 < n
  · rw [if_pos h]
    have h1 : (4096 : Int) < (n : Int) := by omega
    clear hn hA hL
    go_enter Tryz.func51, Tryz.ntmps51
    go_wp2_with fail
    go_ret
    exact ⟨rfl, Below.refl _ _⟩
  · rw [if_neg h]
    have h1 : ¬ (4096 : Int) < (n : Int) := by omega
    have HE := Lib.hid (end_any A n c t 0 w hn (by omega) hA hL (by unfold I64; omega))
    clear hn hA hL
    generalize endOf t 0 = x at *
    by_cases hx : x = (n : Int)
    · rw [if_pos hx]
      subst hx
      go_enter Tryz.func51, Tryz.ntmps51
      go_wp2_with fail
      refine (HE.out).mono ?_
      rintro e w' ⟨rfl, hb⟩
      go_wp2_with fail
      go_ret
      exact ⟨rfl, hb⟩
    · rw [if_neg hx]
      have h2 : (x != (n : Int)) = true := by simpa using hx
      go_enter Tryz.func51, Tryz.ntmps51
      go_wp2_with fail
      refine (HE.out).mono ?_
      rintro e w' ⟨rfl, hb⟩
      go_wp2_with fail
      go_ret
      exact ⟨rfl, hb⟩
end Go.Proofs.YtfeodppdmbideaaGreatDoor
namespace Go.Proofs.YtfeodppdmbideaaGreatDoor
open Go.RowKit

/-- The free variable that a node is under so many binders; below 0: none. -/
def freeN (n : Node3) (k : Nat) : Int := if n.1 = 1 then n.2.1 - k else -1
theorem freeOf_any (n : Node3) (k : Nat) (w : World) (hn : holdsN n) (hk : k ≤ 1000000000) :
    Calls Tryz.prog 142 #[nodeA n, .int .i64 (k : Int)] w fun e w' => e = .returned (.int .i64 (freeN n k)) ∧ Below w.heap.size w w' := by
  have ha := holds_a hn
  obtain ⟨o, A, B⟩ := n
  unfold freeN
  simp only at ha ⊢
  clear hn
  by_cases h : o = 1
  · rw [if_pos h]
    subst h
    go_enter Tryz.func142, Tryz.ntmps142
    go_wp2_with fail
    go_ret
    exact ⟨rfl, (Below.refl _ _).alloc (Nat.le_refl _) _⟩
  · rw [if_neg h]
    have h1 : (o != 1) = true := by simpa using h
    go_enter Tryz.func142, Tryz.ntmps142
    go_wp2_with fail
    go_ret
    exact ⟨rfl, (Below.refl _ _).alloc (Nat.le_refl _) _⟩
/-- A visitor of the free variables. -/
structure FVis (Vf : FuncId) (cap : Array Value) (a : Ann) (B0 : Nat) (I : Nat → (Nat → Prop) → World → Prop) : Prop where
  enters : ∀ args w, (callFunc Vf args).run Tryz.prog w = .ok (.enter Vf args) w
  lt : ∀ i F W, I i F W → ∀ k, F k → k < W.heap.size
  abide : ∀ i F W W', I i F W → Only (fun k => B0 ≤ k ∧ ¬ F k) W W' → I i F W'
  call : ∀ i F W (h : i < a.length), 0 ≤ freeN a[i].1 a[i].2 → I i F W → Calls Tryz.prog Vf (#[.int .i64 (i : Int), .int .i64 (freeN a[i].1 a[i].2)] ++ cap) W
    (fun e W' => e = .returned (.tuple #[]) ∧ ∃ F', I (i + 1) F' W' ∧ Only F W W' ∧ ∀ k, F' k → F k ∨ W.heap.size ≤ k)
  skip : ∀ i F W (h : i < a.length), freeN a[i].1 a[i].2 < 0 → I i F W → I (i + 1) F W
/-- What is around a visitor of the free variables. -/
structure FIn (I : Nat → (Nat → Prop) → World → Prop) (A : Option Addr) (n c : Nat) (t : List Node3) (Vf : FuncId) (cap : Array Value) (bt bv : Nat) (i : Nat) (F : Nat → Prop) (W : World) : Prop where
  inv : I i F W
  nt : ¬ F bt
  nv : ¬ F bv
  na : ∀ b o, A = some ⟨b, o, none⟩ → ¬ F b
  ct : W.cell? ⟨bt, 0, none⟩ = some (.slice A n c)
  cv : W.cell? ⟨bv, 0, none⟩ = some (.func (.func Vf) #[] cap)
  row : Holds W A (nodesV t)
theorem FIn.next {I : Nat → (Nat → Prop) → World → Prop} {A : Option Addr} {n c : Nat} {t : List Node3} {Vf : FuncId} {cap : Array Value} {bt bv i : Nat} {F F' : Nat → Prop} {W W' : World} (h : FIn I A n c t Vf cap bt bv i F W) (ht : 0 < t.length) (hI : I (i + 1) F' W') (ho : Only F W W') (hg : ∀ k, F' k → F k ∨ W.heap.size ≤ k) : FIn I A n c t Vf cap bt bv (i + 1) F' W' := by
  have l1 := World.block_lt_of_cell? _ _ h.ct
  have l2 := World.block_lt_of_cell? _ _ h.cv
  simp only at l1 l2
  refine ⟨hI, fun hf => ?_, fun hf => ?_, fun b o e hf => ?_, (ho.cell (p := ⟨bt, 0, none⟩) l1 h.nt).trans h.ct, (ho.cell (p := ⟨bv, 0, none⟩) l2 h.nv).trans h.cv, h.row.only ho h.na⟩
  · rcases hg _ hf with h' | h'
    · exact h.nt h'
    · omega
  · rcases hg _ hf with h' | h'
    · exact h.nv h'
    · omega
  · obtain ⟨b', o', e', hb, _⟩ := h.row.at_ (by rw [nodesV_len]; omega)
    rw [e] at e'
    cases e'
    rcases hg _ hf with h' | h'
    · exact h.na b o e h'
    · omega
set_option maxHeartbeats 2000000 in
theorem frees1_any (I : Nat → (Nat → Prop) → World → Prop) (A : Option Addr) (n c : Nat) (t : List Node3) (a : Ann) (Vf : FuncId) (cap : Array Value) (B0 bt bv i : Nat) (F : Nat → Prop) (W : World) (V : FVis Vf cap a B0 I) (hi : i < a.length) (hn : t.length = n) (hin : i < n) (hnb : n ≤ 100000) (hti : t[i] = a[i].1)
    (hok : holdsN a[i].1) (hk : a[i].2 ≤ 1000000000) (_hbb : B0 ≤ bt) (h : FIn I A n c t Vf cap bt bv i F W) :
    Calls Tryz.prog 178 #[.int .i64 (i : Int), .int .i64 ((a[i].2 : Nat) : Int), .pointer (some ⟨bt, 0, none⟩), .pointer (some ⟨bv, 0, none⟩)] W
      (fun e W' => e = .returned (.tuple #[]) ∧ ∃ F', FIn I A n c t Vf cap bt bv (i + 1) F' W' ∧ Only F W W' ∧ ∀ k, F' k → F k ∨ W.heap.size ≤ k) := by
  have hen := V.enters
  have hj : i < t.length := by omega
  obtain ⟨gA, oA, rfl, hgA, hcA⟩ := h.row.at_ (by rw [nodesV_len]; omega)
  have r0 := hcA (i * 3) _ (nodesV_get0 hj)
  have r1 := hcA (i * 3 + 1) _ (nodesV_get1 hj)
  have r2 := hcA (i * 3 + 2) _ (nodesV_get2 hj)
  rw [← Nat.add_assoc] at r1 r2
  rw [hti] at r0 r1 r2
  have ct := h.ct
  have cv := h.cv
  have lv := World.block_lt_of_cell? _ _ cv
  simp only at lv
  have HA := Lib.hid fun W => freeOf_any a[i].1 a[i].2 W hok hk
  have HC := Lib.hid fun F W => V.call i F W hi
  have HS := Lib.hid fun F W => V.skip i F W hi
  have HAB := Lib.hid (V.abide i)
  clear hcA hti hok
  generalize a[i] = x at *
  obtain ⟨⟨o, A1, B1⟩, k⟩ := x
  obtain ⟨v, hv⟩ : ∃ v, freeN (o, A1, B1) k = v := ⟨_, rfl⟩
  simp only at r0 r1 r2
  rw [show freeN ((o, A1, B1), k).1 ((o, A1, B1), k).2 = v from hv] at HC HS
  rw [show freeN ((o, A1, B1), k).1 ((o, A1, B1), k).2 = v from hv] at HA
  have HH := Lib.hid h
  clear h hv V hj
  go_enter Tryz.func178, Tryz.ntmps178
  go_wp2_with fail
  refine (HA.out W).mono ?_
  rintro e w1 ⟨rfl, hb⟩
  have cv1 := (hb.cell (p := ⟨bv, 0, none⟩) lv).trans cv
  have hI1 := HAB.out F W w1 HH.out.inv (Only.of_below hb)
  have on1 : Only F W w1 := Only.of_below hb
  have HI1 := Lib.hid hI1
  have HB := Lib.hid hb
  clear hb hI1 ct cv r0 r1 r2
  by_cases h0 : 0 ≤ v
  · have HCV := Lib.hid (HC.out F w1 h0 HI1.out)
    clear HC HS
    go_wp2_with fail
    refine (HCV.out).mono ?_
    rintro e w2 ⟨rfl, F', hI2, on2, hg2⟩
    have ho := on1.trans on2 (fun _ _ h => h)
    have HO := Lib.hid ho
    have HI2 := Lib.hid hI2
    have HG2 := Lib.hid hg2
    clear on1 ho hI2 on2 hg2
    go_wp2_with fail
    go_end0
    have hg : ∀ k, F' k → F k ∨ W.heap.size ≤ k := fun k hf => (HG2.out k hf).imp id fun h => Nat.le_trans HB.out.size h
    exact ⟨rfl, F', HH.out.next (by omega) HI2.out HO.out hg, HO.out, hg⟩
  · have HSV := Lib.hid (HS.out F w1 (by omega) HI1.out)
    clear HC HS
    go_wp2_with fail
    go_end0
    exact ⟨rfl, F, HH.out.next (by omega) HSV.out on1 (fun _ h => .inl h), on1, fun _ h => .inl h⟩
/-- What frees answers. -/
def FreesPost (I : Nat → (Nat → Prop) → World → Prop) (F0 : Nat → Prop) (n : Nat) (w : World) (e : Ending) (w' : World) : Prop :=
  e = .returned (.tuple #[]) ∧ ∃ F', I n F' w' ∧ Only F0 w w' ∧ ∀ k, F' k → F0 k ∨ w.heap.size ≤ k
theorem frees_vis (I : Nat → (Nat → Prop) → World → Prop) (A : Option Addr) (n c : Nat) (t : List Node3) (a : Ann) (Vf : FuncId) (cap : Array Value) (B0 B1 bt bv : Nat) (V : FVis Vf cap a B0 I) (hn : t.length = n) (h0 : 0 < n) (hnb : n ≤ 100000) (e0 : Node3)
    (hW : W t (0, 0, 0) [⟨0, 0⟩] = some (a, [], e0)) (hB : B0 ≤ B1) (hbt : bt < B1) (hbv : bv < B1) (hbb : B0 ≤ bt) (hAB : ∀ b o, A = some ⟨b, o, none⟩ → b < B1) :
    Vis 178 #[.pointer (some ⟨bt, 0, none⟩), .pointer (some ⟨bv, 0, none⟩)] a 0 B1 (FIn I A n c t Vf cap bt bv) (fun _ _ => False) := by
  have hrow := W_row _ _ _ _ _ _ hW
  rw [List.append_nil] at hrow
  have hal : a.length = n := by rw [← hn, hrow.1, List.length_map]
  refine ⟨fun args w => by simp [go_sem], fun i F W h => V.lt i F W h.inv, fun i F W W' h ho => ?_, fun i F W hi h => ?_⟩
  · refine ⟨V.abide i F W W' h.inv (ho.mono fun k hk => ⟨by omega, hk.2⟩), h.nt, h.nv, h.na, ?_, ?_, ?_⟩
    · exact (ho.cell (p := ⟨bt, 0, none⟩) (World.block_lt_of_cell? _ _ h.ct) (by simp only; omega)).trans h.ct
    · exact (ho.cell (p := ⟨bv, 0, none⟩) (World.block_lt_of_cell? _ _ h.cv) (by simp only; omega)).trans h.cv
    · exact h.row.only ho fun b o e hb => by have := hAB b o e; omega
  · have hti : t[i]'(by omega) = a[i].1 := by
      have h1 : t[i]? = (a.map Prod.fst)[i]? := by rw [← hrow.1]
      rw [List.getElem?_eq_getElem (by omega), List.getElem?_map, List.getElem?_eq_getElem hi] at h1
      simpa using h1
    have hok : holdsN a[i].1 := W_holds _ _ _ _ _ _ hW _ (List.getElem_mem hi)
    have hk := W_bound _ _ _ _ _ _ 0 hW (by simp) _ (List.getElem_mem hi)
    have := frees1_any I A n c t a Vf cap B0 bt bv i F W V hi hn (by omega) hnb hti hok (by omega) hbb h
    rw [Nat.zero_add]
    exact this.mono fun e W' h => .inl h
set_option maxHeartbeats 1000000 in
theorem frees_any (I : Nat → (Nat → Prop) → World → Prop) (F0 : Nat → Prop) (A : Option Addr) (n c : Nat) (t : List Node3) (a : Ann) (e0 : Node3) (Vf : FuncId) (cap : Array Value) (w : World) (V : FVis Vf cap a w.heap.size I) (hn : t.length = n) (h0 : 0 < n) (hnb : n ≤ 100000)
    (hA : Holds w A (nodesV t)) (hL : Lim w) (hW : W t (0, 0, 0) [⟨0, 0⟩] = some (a, [], e0)) (hI : I 0 F0 w) (hFA : ∀ b o, A = some ⟨b, o, none⟩ → ¬ F0 b) (hF0 : ¬ F0 0) :
    Calls Tryz.prog 131 #[.slice A n c, .func (.func Vf) #[] cap] w (FreesPost I F0 a.length w) := by
  have hmf : ∀ (fn : Fn) (first cap : Array Value) (w : World), (Instr.makeFunc fn first cap).run Tryz.prog w = .ok (.func fn first cap) w := fun _ _ _ _ => rfl
  obtain ⟨w2, hw2⟩ : ∃ w2, w2 = (w.alloc (.cells #[.slice A n c] 28)).alloc (.cells #[.func (.func Vf) #[] cap] 184) := ⟨_, rfl⟩
  have hb2 : Below w.heap.size w w2 := by rw [hw2]; exact ((Below.refl _ _).alloc (Nat.le_refl _) _).alloc (by simp) _
  have hz : w2.heap.size = w.heap.size + 1 + 1 := by rw [hw2]; simp
  have x1 : Whole w2 w.heap.size #[.slice A n c] 28 := by
    rw [hw2]
    exact (Whole.new w _ _).below ((Below.refl _ _).alloc (Nat.le_refl _) _) (by simp)
  have x2 : Whole w2 (w.heap.size + 1) #[.func (.func Vf) #[] cap] 184 := by
    rw [hw2]
    have := Whole.new (w.alloc (.cells #[.slice A n c] 28)) #[.func (.func Vf) #[] cap] 184
    rwa [World.size_alloc] at this
  have c1 := x1.cell 0
  have c2 := x2.cell 0
  replace c1 : w2.cell? ⟨w.heap.size, 0, none⟩ = some (.slice A n c) := c1
  replace c2 : w2.cell? ⟨w.heap.size + 1, 0, none⟩ = some (.func (.func Vf) #[] cap) := c2
  have hlt : ∀ k, F0 k → k < w.heap.size := V.lt _ _ _ hI
  have hAlt : ∀ b o, A = some ⟨b, o, none⟩ → b < w.heap.size := fun b o e => by
    obtain ⟨b', o', e', hb, _⟩ := hA.at_ (by rw [nodesV_len]; omega)
    rw [e] at e'; cases e'; exact hb
  have hin : FIn I A n c t Vf cap w.heap.size (w.heap.size + 1) 0 F0 w2 := ⟨V.abide _ _ _ _ hI (Only.of_below hb2), fun hf => by have := hlt _ hf; omega, fun hf => by have := hlt _ hf; omega, hFA, c1, c2, hA.below hb2⟩
  have hv := frees_vis I A n c t a Vf cap w.heap.size w2.heap.size w.heap.size (w.heap.size + 1) V hn h0 hnb e0 hW (by omega) (by omega) (by omega) (Nat.le_refl _) (fun b o e => by have := hAlt b o e; omega)
  have hwk := walk_any A n c t 0 a [] (0, 0, 0) e0 _ _ _ _ F0 w2 hn hnb (hA.below hb2) (hL.next hb2) (Nat.zero_le _) hW hin hFA hF0 hv
  have HWK := Lib.hid hwk
  have HB2 := Lib.hid hb2
  clear hn hA hL hI hFA hF0 hb2 hz x1 x2 hlt hAlt hin hv hwk hW V c2 h0
  go_enter Tryz.func131, Tryz.ntmps131
  go_wp2_with fail
  rw [← hw2]
  clear hw2 c1
  refine (HWK.out).mono ?_
  rintro e w3 (⟨rfl, F', hin, ho, hg⟩ | ⟨_, _, hf⟩)
  · have H1 := Lib.hid hin
    have H2 := Lib.hid ho
    have H3 := Lib.hid hg
    clear hin ho hg
    go_wp2_with fail
    go_end0
    refine ⟨rfl, F', H1.out.inv, (Only.of_below (F := F0) HB2.out).trans H2.out (fun _ _ h => h), fun k hf => (H3.out k hf).imp id fun h => Nat.le_trans HB2.out.size h⟩
  · exact hf.elim
end Go.Proofs.YtfeodppdmbideaaGreatDoor
namespace Go.Proofs.YtfeodppdmbideaaGreatDoor
open Go.RowKit

theorem take_snoc {α : Type} {l : List α} {i : Nat} (h : i < l.length) : l.take (i + 1) = l.take i ++ [l[i]] := by rw [List.take_succ_eq_append_getElem h]
end Go.Proofs.YtfeodppdmbideaaGreatDoor
namespace Go.Proofs.YtfeodppdmbideaaGreatDoor
open Go.RowKit

/-- Nodes in an own row. -/
abbrev OwnN (w : World) (B : Nat) (v : Value) (n : Nat) (l : List Node3) : Prop := w.ownsRow B 67 3 v n (nodesV l)
end Go.Proofs.YtfeodppdmbideaaGreatDoor
namespace Go.Proofs.YtfeodppdmbideaaGreatDoor
open Go.RowKit

/-- The nodes of a right row, each with how many binders are around it. -/
def annOf (t : List Node3) : Ann := match W t (0, 0, 0) [⟨0, 0⟩] with
  | some x => x.1
  | none => []
theorem right_of {t : List Node3} (h : shapeOf t = 0) : t.length ≤ 4096 ∧ 0 < t.length ∧ ∃ e0, W t (0, 0, 0) [⟨0, 0⟩] = some (annOf t, [], e0) := by
  unfold shapeOf at h
  split at h
  · cases h
  split at h
  · rename_i h1 h2
    unfold endOf at h2
    rw [if_neg (by omega)] at h2
    simp only [Int.toNat_zero, List.drop_zero] at h2
    unfold annOf
    cases hW : W t (0, 0, 0) [⟨0, 0⟩] with
    | none => rw [hW] at h2; simp only at h2; omega
    | some x =>
      obtain ⟨a, s, e⟩ := x
      rw [hW] at h2
      have hr := W_row _ _ _ _ _ _ hW
      have hl := congrArg List.length hr.1
      simp only [List.length_append, List.length_map] at hl h2
      have h4 := hr.2
      simp only [List.length_cons, List.length_nil] at h4
      have hs : s = [] := List.eq_nil_of_length_eq_zero (by omega)
      subst hs
      exact ⟨by omega, by omega, e, rfl⟩
  · cases h
/-- A row is answered, with an error: the row is new. -/
def RowAns (r : List Node3 × Int) (w : World) (e : Ending) (w' : World) : Prop :=
  ∃ A n c, e = .returned (.tuple #[.slice A n c, .int .i64 r.2]) ∧ r.1.length = n ∧ OwnN w' w.heap.size (.slice A n c) n r.1 ∧ Below w.heap.size w w'
theorem RowAns.none {w w' : World} (x : Int) (hb : Below w.heap.size w w') : RowAns ([], x) w (.returned (.tuple #[.slice none 0 0, .int .i64 x])) w' := ⟨Option.none, 0, 0, rfl, rfl, World.ownsRow_nil _ _ _ _, hb⟩
end Go.Proofs.YtfeodppdmbideaaGreatDoor
namespace Go.Proofs.YtfeodppdmbideaaGreatDoor
open Go.RowKit

def belowB (v : Int) (l : Ann) : Bool := l.all fun x => decide (freeN x.1 x.2 < 0) || decide (freeN x.1 x.2 < v)
def belowS (t : List Node3) (v : Int) : Bool := decide (shapeOf t = 0) && belowB v (annOf t)
theorem below_snoc {v : Int} {a : Ann} {i : Nat} (h : i < a.length) : belowB v (a.take (i + 1)) = (belowB v (a.take i) && (decide (freeN a[i].1 a[i].2 < 0) || decide (freeN a[i].1 a[i].2 < v))) := by
  rw [take_snoc h]; unfold belowB; rw [List.all_append]; simp only [List.all_cons, List.all_nil, Bool.and_true]
/-- The state of Below's visitor. -/
structure BeneathIn (v : Int) (a : Ann) (bf bv : Nat) (i : Nat) (F : Nat → Prop) (W : World) : Prop where
  blk : ∀ k, F k ↔ k = bf
  found : Whole W bf #[.bool (belowB v (a.take i))] 4
  cv : W.cell? ⟨bv, 0, none⟩ = some (.int .i64 v)
set_option maxHeartbeats 1000000 in
theorem tbelow1_any (b : Bool) (i : Nat) (x v : Int) (bf bv : Nat) (W : World) (cb : W.cell? ⟨bf, 0, none⟩ = some (.bool b)) (fb : W.frozen? ⟨bf, 0, none⟩ = false) (cv : W.cell? ⟨bv, 0, none⟩ = some (.int .i64 v)) :
    Calls Tryz.prog 132 #[.int .i64 (i : Int), .int .i64 x, .pointer (some ⟨bf, 0, none⟩), .pointer (some ⟨bv, 0, none⟩)] W (fun e W' => e = .returned (.tuple #[]) ∧ W' = W.setCell ⟨bf, 0, none⟩ (.bool (b && decide (x < v)))) := by
  by_cases hx : x < v
  all_goals
    cases b
    all_goals
      go_enter Tryz.func132, Tryz.ntmps132
      go_wp2_with fail
      go_end0
      refine ⟨rfl, ?_⟩
      first
        | (simp [hx]; done)
        | (simp [show ¬ x < v from by omega]; done)
        | (simp; done)
        | (have e : (x == v) = false := by simpa using hx
           simp [e, hx])
theorem tbelow_vis (v : Int) (a : Ann) (bf bv B0 : Nat) (h1 : bv < B0) (h2 : bv ≠ bf) : FVis 132 #[.pointer (some ⟨bf, 0, none⟩), .pointer (some ⟨bv, 0, none⟩)] a B0 (BeneathIn v a bf bv) := by
  refine ⟨fun args w => by simp [go_sem], fun i F W h k hk => by rw [(h.blk k).1 hk]; exact h.found.lt, fun i F W W' h ho => ?_, fun i F W hi hv h => ?_, fun i F W hi hv h => ?_⟩
  · exact ⟨h.blk, h.found.keep (ho.block bf h.found.lt fun hh => hh.2 ((h.blk bf).2 rfl)), (ho.cell (p := ⟨bv, 0, none⟩) (World.block_lt_of_cell? _ _ h.cv) (by simp only; omega)).trans h.cv⟩
  · refine (tbelow1_any _ i _ v bf bv W (h.found.cell 0) (h.found.frozen 0) h.cv).mono fun e W' ⟨he, hw⟩ => ?_
    have ho : Only F W W' := by
      rw [hw]
      exact (Only.refl F W).set_ (.inl ((h.blk bf).2 rfl)) 0 _
    refine ⟨he, F, ⟨h.blk, ?_, (ho.cell (p := ⟨bv, 0, none⟩) (World.block_lt_of_cell? _ _ h.cv) (fun hh => h2 ((h.blk _).1 hh))).trans h.cv⟩, ho, fun _ h => .inl h⟩
    have hd : decide (freeN a[i].1 a[i].2 < 0) = false := decide_eq_false (by omega)
    rw [below_snoc hi, hd, Bool.false_or, hw]
    exact h.found.set_ 0 _
  · refine ⟨h.blk, ?_, h.cv⟩
    have hd : decide (freeN a[i].1 a[i].2 < 0) = true := decide_eq_true hv
    rw [below_snoc hi, hd, Bool.true_or, Bool.and_true]
    exact h.found
set_option maxHeartbeats 1000000 in
theorem tbelow_any (A : Option Addr) (n c : Nat) (t : List Node3) (v : Int) (w : World) (hn : t.length = n) (hA : Holds w A (nodesV t)) (hL : Lim w) :
    Calls Tryz.prog 86 #[.slice A n c, .int .i64 v] w fun e w' => e = .returned (.bool (belowS t v)) ∧ Below w.heap.size w w' := by
  have hmf : ∀ (fn : Fn) (first cap : Array Value) (w : World), (Instr.makeFunc fn first cap).run Tryz.prog w = .ok (.func fn first cap) w := fun _ _ _ _ => rfl
  have hb1 : Below w.heap.size w (w.alloc (.cells #[.int .i64 v] 3)) := (Below.refl _ _).alloc (Nat.le_refl _) _
  have HSH := Lib.hid (shape_any A n c t (w.alloc (.cells #[.int .i64 v] 3)) hn (hA.below hb1) (hL.next hb1))
  unfold belowS
  have x1 := Whole.new w #[.int .i64 v] 3
  have HB1 := Lib.hid hb1
  by_cases h0 : shapeOf t = 0
  · rw [decide_eq_true h0, Bool.true_and]
    rw [h0] at HSH
    obtain ⟨hl, hp, e0, hW⟩ := right_of h0
    have HFR := Lib.hid (show ∀ w1, Below (w.heap.size + 1) (w.alloc (.cells #[.int .i64 v] 3)) w1 → Calls Tryz.prog 131 #[.slice A n c, .func (.func 132) #[] #[.pointer (some ⟨w1.heap.size, 0, none⟩), .pointer (some ⟨w.heap.size, 0, none⟩)]] (w1.alloc (.cells #[.bool true] 4))
        fun e w' => e = .returned (.tuple #[]) ∧ w'.cell? ⟨w1.heap.size, 0, none⟩ = some (.bool (belowB v (annOf t))) ∧ Below w.heap.size w w' from fun w1 hb => by
      have hz := hb.size
      rw [World.size_alloc] at hz
      have hb0 : Below w.heap.size w w1 := HB1.out.trans (hb.mono (by omega))
      have hb2 : Below w.heap.size w (w1.alloc (.cells #[.bool true] 4)) := hb0.alloc (by omega) _
      have c1 := ((x1.below hb (by omega)).below ((Below.refl w1.heap.size w1).alloc (Nat.le_refl _) (.cells #[.bool true] 4)) (by omega)).cell 0
      have hAlt : ∀ b o, A = some ⟨b, o, none⟩ → b < w.heap.size := fun b o e => by
        obtain ⟨b', o', e', hb, _⟩ := hA.at_ (by rw [nodesV_len]; omega)
        rw [e] at e'; cases e'; exact hb
      have hlp := hL.pos
      have := frees_any (BeneathIn v (annOf t) w1.heap.size w.heap.size) (fun k => k = w1.heap.size) A n c t (annOf t) e0 _ _ (w1.alloc (.cells #[.bool true] 4)) (tbelow_vis v (annOf t) w1.heap.size w.heap.size _ (by simp; omega) (by omega)) hn (by omega) (by omega) (hA.below hb2) (hL.next hb2) hW
        ⟨fun _ => Iff.rfl, Whole.new w1 _ _, c1⟩ (fun b o e hb => by have := hAlt b o e; omega) (by omega)
      refine this.mono fun e w' ⟨he, F', hin, ho, _⟩ => ⟨he, ?_, hb2.trans (ho.below (by simp; omega) fun k hk e => by omega)⟩
      have cm := hin.found.cell 0
      rw [List.take_length] at cm
      exact cm)
    clear hA hL hn hl hp hW h0 x1 hb1
    generalize belowB v (annOf t) = r at *
    go_enter Tryz.func86, Tryz.ntmps86
    go_wp2_with fail
    refine (HSH.out).mono ?_
    rintro e w1 ⟨rfl, hb⟩
    have HB := Lib.hid hb
    clear hb
    go_wp2_with fail
    refine (HFR.out w1 (by have h := HB.out; rw [World.size_alloc] at h; exact h)).mono ?_
    rintro e w2 ⟨rfl, cm, hb⟩
    have HB2 := Lib.hid hb
    clear hb
    go_wp2_with fail
    go_ret
    exact ⟨rfl, HB2.out⟩
  · rw [decide_eq_false h0, Bool.false_and]
    clear hA hL hn x1 hb1
    generalize shapeOf t = x at *
    have h1 : (x != 0) = true := by simpa using h0
    clear h0
    go_enter Tryz.func86, Tryz.ntmps86
    go_wp2_with fail
    refine (HSH.out).mono ?_
    rintro e w1 ⟨rfl, hb⟩
    have HB := Lib.hid (HB1.out.trans (hb.mono (by simp)))
    clear hb
    go_wp2_with fail
    go_ret
    exact ⟨rfl, HB.out⟩
end Go.Proofs.YtfeodppdmbideaaGreatDoor
namespace Go.Proofs.YtfeodppdmbideaaGreatDoor
open Go.RowKit

/-- A row in memory: its address, its spare room, its nodes. -/
abbrev RowT := Option Addr × Nat × List Node3
def rowV (x : RowT) : Value := .slice x.1 x.2.2.length x.2.1
def RowsOk (w : World) (l : List RowT) : Prop := ∀ x ∈ l, Slice x.1 x.2.2.length x.2.1 ∧ Holds w x.1 (nodesV x.2.2)
theorem RowsOk.below {w w' : World} {l : List RowT} (h : RowsOk w l) (hb : Below w.heap.size w w') : RowsOk w' l := fun x hx => ⟨(h x hx).1, (h x hx).2.below hb⟩
/-- The first error of rows. -/
def ffS : List (List Node3) → Int
  | [] => 0
  | t :: r => if shapeOf t ≠ 0 then shapeOf t else ffS r
theorem ff_at {l : List (List Node3)} : ∀ {k : Nat} (h : k < l.length), (∀ j (hj : j < k), shapeOf (l[j]'(by omega)) = 0) → shapeOf l[k] ≠ 0 → ffS l = shapeOf l[k] := by
  induction l with
  | nil => intro k h; simp at h
  | cons t l ih =>
    intro k h hj hk
    cases k with
    | zero =>
      simp only [List.getElem_cons_zero] at hk ⊢
      unfold ffS
      rw [if_pos hk]
    | succ k =>
      have h0 := hj 0 (by omega)
      simp only [List.getElem_cons_zero] at h0
      unfold ffS
      rw [if_neg (by simpa using h0)]
      exact ih (by simpa using h) (fun j hj' => by have := hj (j + 1) (by omega); simpa using this) (by simpa using hk)
theorem ff_none {l : List (List Node3)} (h : ∀ t ∈ l, shapeOf t = 0) : ffS l = 0 := by
  induction l with
  | nil => rfl
  | cons t l ih =>
    unfold ffS
    rw [if_neg (by simpa using h t (by simp))]
    exact ih fun t ht => h t (by simp [ht])
theorem ff_zero {l : List (List Node3)} (h : ffS l = 0) : ∀ t ∈ l, shapeOf t = 0 := by
  induction l with
  | nil => intro t ht; cases ht
  | cons t l ih =>
    unfold ffS at h
    by_cases h0 : shapeOf t = 0
    · rw [if_neg (by simpa using h0)] at h
      intro s hs
      rcases List.mem_cons.1 hs with rfl | hs
      · exact h0
      · exact ih h s hs
    · rw [if_pos h0] at h
      exact absurd h h0
theorem rowsV_get {l : List RowT} {k : Nat} (h : k < l.length) : (l.map rowV)[k]? = some (.slice l[k].1 l[k].2.2.length l[k].2.1) := by
  rw [List.getElem?_map, List.getElem?_eq_getElem h]; rfl
set_option maxHeartbeats 2000000 in
theorem firstFault_any (R : Option Addr) (m c : Nat) (l : List RowT) (w : World) (hm : l.length = m) (hmb : m ≤ 100000000) (hR : Holds w R (l.map rowV)) (hok : RowsOk w l) (hL : Lim w) :
    Calls Tryz.prog 92 #[.slice R m c] w fun e w' => e = .returned (.int .i64 (ffS (l.map fun x => x.2.2))) ∧ Below w.heap.size w w' := by
  have HSH := Lib.hid (show ∀ k (hk : k < l.length) w', Below w.heap.size w w' → _ from fun k hk w' hb => shape_any l[k].1 l[k].2.2.length l[k].2.1 l[k].2.2 w' rfl ((hok l[k] (List.getElem_mem hk)).2.below hb) (hL.next hb))
  have HM := Lib.hid hm
  have HR := Lib.hid hR
  clear hm hR hok hL
  go_enter Tryz.func92, Tryz.ntmps92
  go_wp2_with fail
  go_loopw [8] (fun i wr => ∃ k : Nat, i = .int .i64 (k : Int) ∧ k ≤ m ∧ Below w.heap.size w wr ∧ Hid (∀ j (hj : j < k) (hl : j < l.length), shapeOf l[j].2.2 = 0)) (fun i _ => m - (intOf i).toNat)
  case atStart => exact ⟨0, rfl, Nat.zero_le _, Below.refl _ _, fun j hj => absurd hj (by omega)⟩
  case round =>
    obtain ⟨k, rfl, hk, hb, hz⟩ := hrel
    by_cases hlt : k < m
    · have hkl : k < l.length := by rw [HM.out]; exact hlt
      obtain ⟨b, o, rfl, hbl, hc⟩ := (HR.out.below hb).at_ (by rw [List.length_map]; omega)
      have r0 := hc k _ (rowsV_get hkl)
      have HS := Lib.hid (HSH.out k hkl wr hb)
      have HST : Hid (shapeOf l[k].2.2 = 0 → ∀ j (hj : j < k + 1) (hl : j < l.length), shapeOf l[j].2.2 = 0) := Lib.hid fun h0 j hj hl => by
        by_cases e : j = k
        · subst e; exact h0
        · exact hz.out j (by omega) hl
      have HSF : Hid (shapeOf l[k].2.2 ≠ 0 → ffS (l.map fun x => x.2.2) = shapeOf l[k].2.2) := Lib.hid fun h0 => by
        have := ff_at (l := l.map fun x => x.2.2) (k := k) (by simpa using hkl) (fun j hj => by simpa using hz.out j hj (by omega)) (by simpa using h0)
        simpa using this
      have HB := Lib.hid hb
      clear hc hb hz
      generalize l[k].2.2.length = nk at *
      generalize shapeOf l[k].2.2 = x at *
      generalize l[k].1 = Ak at *
      generalize l[k].2.1 = ck at *
      by_cases hx : x = 0
      · subst hx
        go_wp2_with fail
        refine (HS.out).mono ?_
        rintro e w1 ⟨rfl, hb1⟩
        have HB1 := Lib.hid (below_step HB.out hb1)
        clear hb1 r0
        go_wp2_with fail
        go_roundw
        case rel => exact ⟨k + 1, by go_num, by omega, HB1.out, HST.out trivial⟩
        case measure => simp [intOf] <;> omega
      · have h1 : (x != 0) = true := by simpa using hx
        have HSF' := Lib.hid (HSF.out hx)
        clear hx HSF HST
        go_wp2_with fail
        refine (HS.out).mono ?_
        rintro e w1 ⟨rfl, hb1⟩
        have HB1 := Lib.hid (below_step HB.out hb1)
        clear hb1 r0
        go_wp2_with fail
        go_ret
        rw [HSF'.out]
        exact ⟨rfl, HB1.out⟩
    · have hkm : k = m := by omega
      have HF : Hid (ffS (l.map fun x => x.2.2) = 0) := Lib.hid (ff_none fun t ht => by
        obtain ⟨x, hx, rfl⟩ := List.mem_map.1 ht
        obtain ⟨j, hj, rfl⟩ := List.mem_iff_getElem.1 hx
        exact hz.out j (by have := HM.out; omega) hj)
      have HB := Lib.hid hb
      clear hb hz hkm
      go_wp2_with fail
      go_ret
      rw [HF.out]
      exact ⟨rfl, HB.out⟩
end Go.Proofs.YtfeodppdmbideaaGreatDoor
namespace Go.Proofs.YtfeodppdmbideaaGreatDoor
open Go.RowKit
section
variable {P : Program} {ops : Array Oper} {Q : Exit → Act → World → Prop} {S : World → Prop}
theorem region_begin_any {id : Nat} {a : Act} {w : World} (hm : P.follows .mixedOrders = true) (hS : S w.drew)
    (h : ∀ W, W = w.drew → S W → wpAnyH P .any ops (NoPanic Q) S ops.size (Array.replicate ops.size false) a W) : (Code.region id ops true).wp P Q a w := region_begin hm hS (h _ rfl)
theorem region_two (i j : Nat) {oi oj : Oper} {ri rj : List Oper} {fuel : Nat} {listed : Array Bool} {a : Act} {w : World} (hi : ops.toList.drop i = oi :: ri) (hj : ops.toList.drop j = oj :: rj) (hr : Region.ready .any ops listed = [i, j])
    (hwi : Region.wanted oi (yielded ops a.tmps) = true) (hwj : Region.wanted oj (yielded ops a.tmps) = true)
    (h1 : ∀ K : Act → World → Prop, Shut (∀ a w, S w → (S w → wpAnyH P .any ops (NoPanic Q) S fuel (listed.setIfInBounds i true) a w) → K a w) → Oper.wp P oi a w K (NoPanic Q))
    (h2 : ∀ K : Act → World → Prop, Shut (∀ a w, S w → (S w → wpAnyH P .any ops (NoPanic Q) S fuel (listed.setIfInBounds j true) a w) → K a w) → Oper.wp P oj a w K (NoPanic Q)) : wpAnyH P .any ops (NoPanic Q) S (fuel + 1) listed a w :=
  wpAnyH_ready hr (by simp) (AllReadyH.cons (get_of_drop hi) (fun K hK => by rw [if_pos hwi]; exact h1 K hK) (AllReadyH.cons (get_of_drop hj) (fun K hK => by rw [if_pos hwj]; exact h2 K hK) AllReadyH.nil))
end
end Go.Proofs.YtfeodppdmbideaaGreatDoor
