/- term.caught: what gives up is caught. -/
import Derived.Test.YtkkkblghihheeaaDoorTWalkNo
import Derived.Defers
import Derived.Recover
namespace Go.Proofs.YtkkkblghihheeaaDoor
open Go.RowKit

theorem catch_idle (p : Addr) (w : World) :
    CallsD Tryd.prog 74 #[.pointer (some p)] .returning w fun e u' w' => e = .returned (.tuple #[]) ∧ u' = .returning ∧ w' = w := by
  refine callsD_of_wpS Tryd.func74 rfl fun c₀ cs hu => ?_
  apply wpS_seq
  apply wpS_region
  simp [wpOpsS, go_sem, recoverD, hu, Tryd.ntmps74, Exit.thenS]
  refine wpS_of_wp ?_
  change Code.wp _ _ _ { tmps := #[.pointer (some p), .nilIface, undef, undef, .nilIface, undef, undef, undef, undef, undef, undef, undef, undef, undef, undef, undef], defers := [] } _
  go_wp2_with fail
  cases c₀
  simp_all [bodyPostS, results, Tryd.results74]
theorem assert_fault (f : Int) (w : World) : (Instr.typeAssert (.iface 82 (.int .i64 f)) 20 82 true).run Tryd.prog w = .ok (.tuple #[.int .i64 f, .bool true]) w := by kernel_rfl
set_option maxRecDepth 100000 in
theorem catch_panicking (p : Addr) (f : Int) (w : World) (hc : w.cell? p = some (.int .i64 0)) (hz : w.frozen? p = false) :
    CallsD Tryd.prog 74 #[.pointer (some p)] (.panicking (faultP f)) w fun e u' w' => e = .returned (.tuple #[]) ∧ u' = .panicking [{ v := .iface 82 (.int .i64 f), recovered := true }] ∧ w' = w.setCell p (.int .i64 f) := by
  refine callsD_of_wpS Tryd.func74 rfl fun c₀ cs hu => ?_
  unfold faultP at hu
  apply wpS_seq
  apply wpS_region
  simp [wpOpsS, go_sem, recoverD, hu, Tryd.ntmps74, Exit.thenS]
  refine wpS_of_wp ?_
  have HU := Lib.hid hu
  have hta := assert_fault f
  clear hu
  change Code.wp _ _ _ { tmps := #[.pointer (some p), .iface 82 (.int .i64 f), undef, undef, .iface 82 (.int .i64 f), undef, undef, undef, undef, undef, undef, undef, undef, undef, undef, undef], defers := [] } _
  go_wp2_with fail
  cases c₀
  have hu := HU.out
  simp_all [bodyPostS, results, Tryd.results74]

/-- The cell of the answer. -/
abbrev resW (w : World) : World := w.alloc (.cells #[.int .i64 0] 26)
/-- What caught answers. -/
def CaughtPost (w : World) (R1 : World → Prop) (R2 : Int → World → Prop) (e : Ending) (w' : World) : Prop :=
  ∃ f W', e = .returned (.int .i64 f) ∧ ((f = 0 ∧ R1 W') ∨ R2 f W') ∧ Whole W' w.heap.size #[.int .i64 0] 26 ∧ w' = W'.setCell ⟨w.heap.size, 0, none⟩ (.int .i64 f)
set_option maxHeartbeats 1000000 in
theorem caught_any (D : FuncId) (cap : Array Value) (w : World) (R1 : World → Prop) (R2 : Int → World → Prop) (hen : ∀ args w, (callFunc D args).run Tryd.prog w = .ok (.enter D args) w)
    (hdo : Calls Tryd.prog D cap (resW w) fun e W' => Whole W' w.heap.size #[.int .i64 0] 26 ∧ ((e = .returned (.tuple #[]) ∧ R1 W') ∨ ∃ f, e = .panicked (faultP f) ∧ R2 f W')) :
    Calls Tryd.prog 43 #[.func (.func D) #[] cap] w (CaughtPost w R1 R2) := by
  have hmf : ∀ (fn : Fn) (first cap : Array Value) (w : World), (Instr.makeFunc fn first cap).run Tryd.prog w = .ok (.func fn first cap) w := fun _ _ _ _ => rfl
  go_enter_defers Tryd.func43, Tryd.ntmps43
  go_wp2_with fail
  have HDO := Lib.hid hdo
  clear hdo
  refine (HDO.out).mono ?_
  rintro e W' ⟨hwh, ⟨rfl, h1⟩ | ⟨f, rfl, h2⟩⟩
  · have c0 := hwh.cell 0
    have f0 := hwh.frozen 0
    replace c0 : W'.cell? ⟨w.heap.size, 0, none⟩ = some (.int .i64 0) := c0
    have c1 := (hwh.set_ 0 (.int .i64 0)).cell 0
    have HW := Lib.hid hwh
    have HC1 := Lib.hid c1
    clear hwh c1
    go_wp2_with fail
    refine leaves_cons (f := 74) (args := #[.pointer (some ⟨w.heap.size, 0, none⟩)]) (by simp) (by simp [go_sem]) ?_
    refine (catch_idle ⟨w.heap.size, 0, none⟩ _).mono ?_
    rintro e u' w'' ⟨rfl, rfl, rfl⟩
    simp [Leaves, settle, results, Tryd.results43, go_sem]
    have c1 := HC1.out
    refine ⟨_, by rw [c1]; rfl, 0, W', rfl, .inl ⟨rfl, h1⟩, HW.out, rfl⟩
  · have c1 := (hwh.set_ 0 (.int .i64 f)).cell 0
    go_wp2_with fail
    refine leaves_cons (f := 74) (args := #[.pointer (some ⟨w.heap.size, 0, none⟩)]) (by simp) (by simp [go_sem]) ?_
    refine (catch_panicking ⟨w.heap.size, 0, none⟩ f _ (hwh.cell 0) (hwh.frozen 0)).mono ?_
    rintro e u' w'' ⟨rfl, rfl, rfl⟩
    simp [Leaves, settle, results, Tryd.results43, go_sem]
    refine ⟨_, by rw [c1]; rfl, f, W', rfl, .inr h2, hwh, rfl⟩

/-- The visitor that does nothing. -/
theorem vis_pass (a : Ann) (at0 B0 : Nat) : Vis 46 #[] a at0 B0 (fun _ F _ => ∀ k, ¬ F k) (fun _ _ => False) :=
  { enters := fun args w => by simp [go_sem]
    lt := fun _ _ _ h k hk => absurd hk (h k)
    abide := fun _ _ _ _ h _ => h
    call := fun i F W h hI => (pass_any _ _ _).mono fun e W' ⟨he, hw⟩ => by
      subst hw
      exact .inl ⟨he, F, hI, Only.refl _ _, fun _ h => .inl h⟩ }
/-- Where a term ends that begins at a place. -/
def endOf (t : List Node3) (at0 : Int) : Int := if at0 < 0 then -1 else match W (t.drop at0.toNat) (0, 0, 0) [⟨0, 0⟩] with
  | some x => at0 + x.1.length
  | none => -1
/-- A walk with pass. -/
theorem walk_pass (A : Option Addr) (n c : Nat) (t : List Node3) (at0 : Int) (w : World) (hn : t.length = n) (hnb : n ≤ 100000) (hA : Holds w A (nodesV t)) (hL : Lim w) (hat : I64 at0) :
    Calls Tryd.prog 45 #[.slice A n c, .int .i64 at0, .func (.func 46) #[] #[]] w fun e w' => Below w.heap.size w w' ∧
      ((∃ x, 0 ≤ at0 ∧ W (t.drop at0.toNat) (0, 0, 0) [⟨0, 0⟩] = some x ∧ endOf t at0 = at0 + x.1.length ∧ e = .returned (.int .i64 (endOf t at0))) ∨ (endOf t at0 = -1 ∧ e = .panicked (faultP 8))) := by
  unfold I64 at hat
  by_cases h : at0 < 0
  · refine (walk_neg A n c at0 _ w h).mono fun e w' ⟨he, hb⟩ => ⟨hb, .inr ⟨?_, he⟩⟩
    unfold endOf
    rw [if_pos h]
  · obtain ⟨j, rfl⟩ : ∃ j : Nat, at0 = j := ⟨at0.toNat, by omega⟩
    cases hW : W (t.drop j) (0, 0, 0) [⟨0, 0⟩] with
    | none =>
      refine (walk_none A n c t j (0, 0, 0) w hn hnb hA hL (by omega) hW).mono fun e w' ⟨he, hb⟩ => ⟨hb, .inr ⟨?_, he⟩⟩
      unfold endOf
      rw [if_neg h, Int.toNat_natCast, hW]
    | some x =>
      have hj : j ≤ n := by
        rcases Nat.lt_or_ge n j with h1 | h1
        · rw [List.drop_eq_nil_of_le (by omega)] at hW; cases hW
        · exact h1
      refine (walk_any A n c t j x.1 x.2.1 (0, 0, 0) x.2.2 46 #[] _ _ (fun _ => False) w hn hnb hA hL hj hW (fun _ h => h) (fun _ _ _ h => h) (fun h => h) (vis_pass _ _ _)).mono fun e w' hp => ?_
      rcases hp with ⟨he, F', _, ho, _⟩ | ⟨_, _, hf⟩
      · refine ⟨ho.below (Nat.le_refl _) fun _ _ h => h, .inl ⟨x, by omega, by rw [Int.toNat_natCast, hW], ?_, ?_⟩⟩
        · unfold endOf
          rw [if_neg h, Int.toNat_natCast, hW]
        · rw [he]
          unfold endOf
          rw [if_neg h, Int.toNat_natCast, hW]
          simp
      · exact hf.elim
end Go.Proofs.YtkkkblghihheeaaDoor
